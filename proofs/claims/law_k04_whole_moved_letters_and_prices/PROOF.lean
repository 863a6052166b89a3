import PyProof.Rows.All
import Wide.All
import OpenK.AllK
import Wide.FinOn
import HandS.ForMost
import HandS.Wide
import HandS.WideBits
import HandS.Zip
import HandS.Walk
import HandS.IsInst
import HandS.Defaults
import KE.GoesEnum
import HandS.Codes
import HandS.Style
import HandS.SortInts
import HandS.Replace
import HandS.Conv
import PySem.Challenge.RW_sideswaps_k04_whole_moved_letters_and_pr
set_option Elab.async false
set_option linter.all false
set_option maxRecDepth 100000
set_option maxHeartbeats 4000000
/-! Own rules over the hand layer: a great power, zip of two texts, enumerate of a text. -/
namespace Sw
open PySem PySem.Spec PyProof.Rows L2
/-- a ** n while the answer stays small enough -/
def CPowW (i j : Int) : Prop := 0 ≤ j ∧ (Builtin.Int.intBits i : Int) * j ≤ 2 ^ 27
theorem op_powW {X : Cx} : OpR X (binaryOp .Pow) (rI CPowW fun i j => .int (i ^ j.toNat)) :=
  opI fun _ _ _ _ _ _ _ hc q => pow_int hc.1 hc.2 q

/-! ### two texts side by side -/
/-- new pairs of the signs of x and y that stand at one place -/
def Itzs (x y : Str) : It :=
  ⟨fun i _ => i < min x.cps.size y.cps.size,
   fun i H v H' => ∃ T c d, v = .ref T ∧ H T = none ∧ H' = upd H T (.tup [.str ⟨#[c]⟩, .str ⟨#[d]⟩]) ∧ x.cps[i]? = some c ∧ y.cps[i]? = some d,
   fun i _ => min x.cps.size y.cps.size ≤ i⟩
theorem turn_zipS {P : Program} {w : World} {K : PySem.W.Frag} {elts : List Expr} {kk : Nat} {tpos : Pos} {z TI TO i1 i2 : Addr} (x y : Str) (t u : Tok) (S : ZipSep2 z TI TO i1 i2 [i1] [i2]) :
    Turn P w K (.Tuple elts kk tpos) (Itzs x y) [z, TI, TO, i1, i2] z
      (fun i h => i ≤ min x.cps.size y.cps.size ∧ IsZip h z TI TO .none ∧ IsTupOf2 h TI (.ref i1) (.ref i2) ∧ (∃ a b, IsTupOf2 h TO a b) ∧ h.IsStrIter i1 (strIterType x) x t i ∧ h.IsStrIter i2 (strIterType y) y u i) where
  mem := by simp
  obj := fun i h st c hc => by
    obtain ⟨_, hz, hTI, ⟨a, b, hTO⟩, ⟨o1, e1, _, d1⟩, ⟨o2, e2, _, d2⟩⟩ := st
    have cs : c = z ∨ c = TI ∨ c = TO ∨ c = i1 ∨ c = i2 := by simpa using hc
    rcases cs with rfl | rfl | rfl | rfl | rfl
    · exact ⟨_, hz, fun v q => by cases q⟩
    · exact ⟨_, hTI, fun v q => by cases q⟩
    · exact ⟨_, hTO, fun v q => by cases q⟩
    · exact ⟨o1, e1, fun v q => by rw [d1] at q; cases q⟩
    · exact ⟨o2, e2, fun v q => by rw [d2] at q; cases q⟩
  keep := fun i h h' st k => by
    obtain ⟨hle, hz, hTI, ⟨a, b, hTO⟩, h1, h2⟩ := st
    refine ⟨hle, k z (by simp) _ hz, k TI (by simp) _ hTI, ⟨a, b, k TO (by simp) _ hTO⟩, ?_, ?_⟩
    · obtain ⟨o, ho, r⟩ := h1; exact ⟨o, k i1 (by simp) o ho, r⟩
    · obtain ⟨o, ho, r⟩ := h2; exact ⟨o, k i2 (by simp) o ho, r⟩
  item := by
    intro X hP hw hK hc i pins s σ H E I hf st hg
    subst hP hw hK
    obtain ⟨hle, hz, hTI, ⟨a, b, hTO⟩, h1, h2⟩ := st
    have hg' : i < min x.cps.size y.cps.size := hg
    have hx : i < x.cps.size := by omega
    have hy : i < y.cps.size := by omega
    have hh := I.ok.hd hc
    have D1 := Draws.text (prog := X.prog) (w := X.w) (A := X.A.in1) hh i1 x t
    have D2 := Draws.text (prog := X.prog) (w := X.w) (A := X.A.in1) hh i2 y u
    have hzl : z < s.heap.objs.size := Heap.lt_size hz
    refine wpAny_pyNext_zipD2_item S D1 D2 hz hTI hTO h1 h2 hx hy fun v1 v2 h' tk p1 p2 z' TO' h1' h2' hT hsz hk => ?_
    obtain ⟨c, t1, hc1, rfl⟩ := p1
    obtain ⟨d, t2, hd1, rfl⟩ := p2
    refine ⟨_, rfl, wpAny_letOwnedTupleGo_zip (s := { s with heap := h', toks := tk }) z' fun h'' z'' sb => ?_⟩
    have hT2 := (sb.2 _ (Nat.ne_of_gt hzl)).trans hT
    have new : ObjOk X.prog X.w (upd H s.heap.objs.size (.tup [.str ⟨#[c]⟩, .str ⟨#[d]⟩])) h'' s.heap.objs.size (.tup [.str ⟨#[c]⟩, .str ⟨#[d]⟩]) :=
      ⟨by show 2 ≤ sizeLine; decide, [.str ⟨#[c]⟩ t1, .str ⟨#[d]⟩ t2], .cons ⟨_, rfl⟩ (.cons ⟨_, rfl⟩ .nil), ⟨_, hT2, rfl, _, rfl⟩⟩
    have off : ∀ {c : Addr}, c ∉ [z, TI, TO, i1, i2] → c ≠ z ∧ c ≠ TO ∧ c ≠ i1 ∧ c ≠ i2 := fun {c} hb => by
      simp only [List.mem_cons, List.not_mem_nil, or_false, not_or] at hb
      exact ⟨hb.1, hb.2.2.1, hb.2.2.2.1, hb.2.2.2.2⟩
    have I1 := I.turnedNew (h' := h'') (t' := tk) (ch := [z, TI, TO, i1, i2]) (fun c o hb q => by
      obtain ⟨n1, n2, n3, n4⟩ := off hb
      exact (sb.2 c n1).trans (hk c o n1 n2 n3 n4 q)) hf (Nat.le_refl _) new
    refine ⟨.ref s.heap.objs.size, _, I1, rfl, ⟨_, c, d, rfl, I.hok.fresh (Nat.le_refl _), rfl, hc1, hd1⟩, ⟨by omega, z'', ?_, ⟨_, _, (sb.2 _ S.TOz).trans TO'⟩, ?_, ?_⟩, fun c hcm => ?_⟩
    · exact (sb.2 _ S.TIz).trans (hk _ _ S.TIz S.TITO S.TIi1 S.TIi2 hTI)
    · obtain ⟨o, ho, r⟩ := h1'; exact ⟨o, (sb.2 _ (fun e => S.zi1 e.symm)).trans ho, r⟩
    · obtain ⟨o, ho, r⟩ := h2'; exact ⟨o, (sb.2 _ (fun e => S.zi2 e.symm)).trans ho, r⟩
    · have hlt : c < s.heap.objs.size := by
        have cs : c = z ∨ c = TI ∨ c = TO ∨ c = i1 ∨ c = i2 := by simpa using hcm
        rcases cs with rfl | rfl | rfl | rfl | rfl
        · exact hzl
        · exact Heap.lt_size hTI
        · exact Heap.lt_size hTO
        · obtain ⟨_, e1, _⟩ := h1; exact Heap.lt_size e1
        · obtain ⟨_, e2, _⟩ := h2; exact Heap.lt_size e2
      rw [upd_ne (Nat.ne_of_lt hlt)]
      exact (hf c hcm).1
  done := by
    intro X hP hw hK hc i pins s σ H E I hf st hg
    subst hP hw hK
    obtain ⟨hle, hz, hTI, ⟨a, b, hTO⟩, h1, h2⟩ := st
    have hg' : min x.cps.size y.cps.size ≤ i := hg
    have hh := I.ok.hd hc
    have D1 := Draws.text (prog := X.prog) (w := X.w) (A := X.A.in1) hh i1 x t
    have D2 := Draws.text (prog := X.prog) (w := X.w) (A := X.A.in1) hh i2 y u
    refine wpAny_pyNext_zipD2_end S D1 D2 hz hTI hTO h1 h2 (by omega) (by omega) (by omega) fun h' tk hk => ⟨rfl, I.turnedL (t' := tk) (ch := [z, TI, TO, i1, i2]) (fun c o hb q => ?_) hf⟩
    simp only [List.mem_cons, List.not_mem_nil, or_false, not_or] at hb
    exact hk c o hb.1 hb.2.2.1 hb.2.2.2.1 hb.2.2.2.2 q
  self := fun A i s Q E st h => wpAny_pyIter_zip st.2.1 h
def iZipS (ta : TA) : TI := fun σ H R => ta σ H fun vs H1 => ∃ x y, vs = [.str x, .str y] ∧ R (Itzs x y) H1
theorem pi_zipS {X : Cx} {e e2 : Expr} {ta : TA} {p pos tpos : Pos} {elts : List Expr} {kk : Nat} (hg : Gl X "zip") (hm : X.mg "zip" = none) (ha : PA X [e, e2] ta)
    (hs : starEach [e, e2] X.env = (false, eval e X.env) :: starEach [e2] X.env := by rfl) (hpl : (backTo pos (starEach [e2] X.env)).any (·.1) = false := by rfl) :
    PI X (.Tuple elts kk tpos) (.Call (.Name "zip" p) [e, e2] [] pos) (iZipS ta) := by
  refine ⟨fun pins s σ H R I h => ?_⟩
  refine Call_ (ld_blt I hg hm PyProof.Rows.boot_zip (PyProof.Rows.callWith_type1 (thn (ha.run pos pins s σ H _ I h) fun us s1 ⟨vs, H1, I1, r1, q1⟩ => ?_) hs hpl))
  obtain ⟨x, y, ex, q⟩ := q1
  subst ex
  cases r1 with
  | cons r rr =>
    cases rr with
    | cons r' rr =>
    cases rr
    obtain ⟨t, rfl⟩ := r
    obtain ⟨u, rfl⟩ := r'
    refine zip_begins2 (begins_text x t) (begins_text y u) trivial trivial fun h' hz hTI hTO h1 h2 hsz hk => wpAny_pyIter_zip hz ?_
    have I2 : Inv X pins σ H1 { s1 with heap := h' } := I1.kept (t' := s1.toks) hk
    refine ⟨s1.heap.objs.size + 4, [s1.heap.objs.size + 4, s1.heap.objs.size + 2, s1.heap.objs.size + 3, s1.heap.objs.size, s1.heap.objs.size + 1], _, _, H1, rfl, I2,
      turn_zipS x y t u (zip_sep2 (by simp) (by simp)), ⟨Nat.zero_le _, hz, hTI, ⟨_, _, hTO⟩, ⟨_, h1, rfl, rfl⟩, ⟨_, h2, rfl, rfl⟩⟩, fun c hcm => ?_, q⟩
    have hle : s1.heap.objs.size ≤ c := by
      have cs : c = s1.heap.objs.size + 4 ∨ c = s1.heap.objs.size + 2 ∨ c = s1.heap.objs.size + 3 ∨ c = s1.heap.objs.size ∨ c = s1.heap.objs.size + 1 := by simpa using hcm
      rcases cs with e | e | e | e | e <;> rw [e] <;> first | exact Nat.le_refl _ | exact Nat.le_add_right _ _
    exact I1.fpOk hle (I1.hok.fresh hle)
/-- its turns -/
theorem walk_zipS {x y : Str} : Walk (Itzs x y) (min x.cps.size y.cps.size) (fun _ => True) (YPair (fun i => (x.cps[i]?).map fun c => V.str ⟨#[c]⟩) (fun i => (y.cps[i]?).map fun c => V.str ⟨#[c]⟩)) :=
  ⟨fun _ _ hi _ => hi, fun _ _ => Nat.le_refl _, fun i H v H' _ _ yy => by
    obtain ⟨T, c, d, h1, h2, h3, h4, h5⟩ := yy
    exact ⟨T, _, _, h1, h2, h3, by simp [h4], by simp [h5]⟩⟩

/-! ### a text by its places -/
def Ites (x : Str) : It :=
  ⟨fun i _ => i < x.cps.size, fun i H v H' => ∃ T c, v = .ref T ∧ H T = none ∧ H' = upd H T (.tup [.int (i : Nat), .str ⟨#[c]⟩]) ∧ x.cps[i]? = some c, fun i _ => x.cps.size ≤ i⟩
theorem turn_enumS {P : Program} {w : World} {K : PySem.W.Frag} {elts : List Expr} {kk : Nat} {tpos : Pos} (e it : Addr) (x : Str) (t : Tok) (hei : e ≠ it) :
    Turn P w K (.Tuple elts kk tpos) (Ites x) [e, it] e (fun i h => i ≤ x.cps.size ∧ (∃ old, IsEnum h e it ((i : Nat) : Int) old) ∧ h.IsStrIter it (strIterType x) x t i) where
  mem := by simp
  obj := fun i h st b hb => by
    obtain ⟨_, ⟨old, he⟩, ⟨o, ho, hc, hd⟩⟩ := st
    have cs : b = e ∨ b = it := by simpa using hb
    rcases cs with rfl | rfl
    · exact ⟨_, he, fun v q => by cases q⟩
    · exact ⟨o, ho, fun v q => by rw [hd] at q; cases q⟩
  keep := fun i h h' st k => by
    obtain ⟨hle, ⟨old, he⟩, ⟨o, ho, r⟩⟩ := st
    exact ⟨hle, ⟨old, k e (by simp) _ he⟩, ⟨o, k it (by simp) o ho, r⟩⟩
  item := by
    intro X hP hw hK hc i pins s σ H E I hf st hg
    subst hP hw hK
    obtain ⟨hle, ⟨old, he⟩, hit⟩ := st
    have hg' : i < x.cps.size := hg
    have D := Draws.text (prog := X.prog) (w := X.w) (A := X.A.in1) (I.ok.hd hc) it x t
    have hel : e < s.heap.objs.size := Heap.lt_size he
    have hil : it < s.heap.objs.size := by obtain ⟨_, q, _⟩ := hit; exact Heap.lt_size q
    have hei2 : e ∉ [it] := by simpa using hei
    refine wpAny_pyNext_enum_itemD D he hit hg' hei hei2 fun v h' tk p ho hit' hT hsz hk => ?_
    obtain ⟨c, t1, hc1, rfl⟩ := p
    refine ⟨_, rfl, wpAny_letOwnedTupleGo_enum (s := { s with heap := h', toks := tk + 1 }) ho fun h'' he' sb => ?_⟩
    have hT2 := (sb.2 _ (Nat.ne_of_gt hel)).trans hT
    have new : ObjOk X.prog X.w (upd H s.heap.objs.size (.tup [.int (i : Nat), .str ⟨#[c]⟩])) h'' s.heap.objs.size (.tup [.int (i : Nat), .str ⟨#[c]⟩]) :=
      ⟨by show 2 ≤ sizeLine; decide, [.int i tk, .str ⟨#[c]⟩ t1], .cons ⟨_, rfl⟩ (.cons ⟨_, rfl⟩ .nil), ⟨_, hT2, rfl, _, rfl⟩⟩
    have I1 := I.turnedNew (h' := h'') (t' := tk + 1) (ch := [e, it]) (fun b ob hb q => by
      simp only [List.mem_cons, List.not_mem_nil, or_false, not_or] at hb
      exact (sb.2 b hb.1).trans (hk b ob hb.1 hb.2 q)) hf (Nat.le_refl _) new
    refine ⟨.ref s.heap.objs.size, _, I1, rfl, ⟨_, c, rfl, I.hok.fresh (Nat.le_refl _), rfl, hc1⟩, ⟨by omega, ⟨.str ⟨#[c]⟩ t1, ?_⟩, ?_⟩, fun b hb => ?_⟩
    · have e1 : ((i + 1 : Nat) : Int) = (i : Int) + 1 := by omega
      rw [e1]; exact he'
    · obtain ⟨o, ho', r⟩ := hit'; exact ⟨o, (sb.2 it (Ne.symm hei)).trans ho', r⟩
    · have hb' : b < s.heap.objs.size := by
        have cs : b = e ∨ b = it := by simpa using hb
        rcases cs with rfl | rfl
        · exact hel
        · exact hil
      rw [upd_ne (Nat.ne_of_lt hb')]
      exact (hf b hb).1
  done := by
    intro X hP hw hK hc i pins s σ H E I hf st hg
    subst hP hw hK
    obtain ⟨hle, ⟨old, he⟩, hit⟩ := st
    have hg' : x.cps.size ≤ i := hg
    have ei : i = x.cps.size := Nat.le_antisymm hle hg'
    subst ei
    have D := Draws.text (prog := X.prog) (w := X.w) (A := X.A.in1) (I.ok.hd hc) it x t
    obtain ⟨f0, f1, f2, f3, f4, f5⟩ := hf it (by simp)
    exact wpAny_pyNext_enum_endD D he hit fun h' eb => ⟨rfl, I.turned (t' := s.toks) (fun b o hb q => eb b o hb q) f0 f1 f3 f4 f5⟩
  self := fun A i s Q E st h => by
    obtain ⟨_, ⟨old, he⟩, _⟩ := st
    exact wpAny_pyIter_enum he h
def iEnumS (ta : TA) : TI := fun σ H R => ta σ H fun vs H1 => ∃ x, vs = [.str x] ∧ R (Ites x) H1
theorem pi_enumS {X : Cx} {e : Expr} {ta : TA} {p pos tpos : Pos} {elts : List Expr} {kk : Nat} (hg : Gl X "enumerate") (hm : X.mg "enumerate" = none) (ha : PA X [e] ta) (hs : starEach [e] X.env = [(false, eval e X.env)] := by rfl) :
    PI X (.Tuple elts kk tpos) (.Call (.Name "enumerate" p) [e] [] pos) (iEnumS ta) := by
  refine ⟨fun pins s σ H R I h => ?_⟩
  refine Call_ (ld_blt I hg hm boot_enumerate (PyProof.Rows.callWith_type1 (thn (ha.run pos pins s σ H _ I h) fun us s1 ⟨vs, H1, I1, r1, q1⟩ => ?_) hs rfl))
  obtain ⟨x, ex, q⟩ := q1
  subst ex
  cases r1 with
  | cons r rr =>
    cases rr
    obtain ⟨t, rfl⟩ := r
    refine call_enumerate_str fun h' he hit hsz hk => wpAny_pyIter_enum he ?_
    have I2 : Inv X pins σ H1 { s1 with heap := h' } := I1.kept (t' := s1.toks) hk
    refine ⟨s1.heap.objs.size + 1, [s1.heap.objs.size + 1, s1.heap.objs.size], _, _, H1, rfl, I2, turn_enumS (s1.heap.objs.size + 1) s1.heap.objs.size x t (Nat.succ_ne_self _), ⟨Nat.zero_le _, ⟨.none, he⟩, hit⟩, fun b hb => ?_, q⟩
    have hle : s1.heap.objs.size ≤ b := by
      have cs : b = s1.heap.objs.size + 1 ∨ b = s1.heap.objs.size := by simpa using hb
      rcases cs with e | e <;> rw [e] <;> first | exact Nat.le_refl _ | exact Nat.le_add_right _ _
    exact I1.fpOk hle (I1.hok.fresh hle)
theorem walk_enumS {x : Str} : Walk (Ites x) x.cps.size (fun _ => True) (YPair (fun i => some (.int (i : Nat))) (fun i => (x.cps[i]?).map fun c => V.str ⟨#[c]⟩)) :=
  ⟨fun _ _ hi _ => hi, fun _ _ => Nat.le_refl _, fun i H v H' _ _ yy => by
    obtain ⟨T, c, h1, h2, h3, h4⟩ := yy
    exact ⟨T, _, _, h1, h2, h3, rfl, by simp [h4]⟩⟩
end Sw
namespace Sw
open PySem PySem.Spec PyProof.Rows L2
/-! ### the rules that speak of the written part, the part named (within a comprehension) -/
section
variable {X : Cx} (K : PySem.W.Frag)
theorem call_lenK (h : X.K = K := by rfl) : CallR X (.builtin "len") (fun xs H Q => ∃ x n, xs = [x] ∧ LenV K x H n ∧ Q (.int n) H) := h ▸ call_len
theorem call_len_seqK (h : X.K = K := by rfl) : CallR X (.builtin "len") (fun xs H Q => ∃ p ys, xs = [.ref p] ∧ (SqL K H p ys ∨ SqT K H p ys) ∧ Q (.int ys.length) H) := h ▸ call_len_seq
theorem ix_listK (h : X.K = K := by rfl) : IxR X (rIxL K) := h ▸ ix_list
theorem ix_tupK (h : X.K = K := by rfl) : IxR X (rIxT K) := h ▸ ix_tup
theorem op_in_seqK (h : X.K = K := by rfl) : OpR X (compareOp .In) (rIn K false) := h ▸ op_in_seq
theorem sl_listK (h : X.K = K := by rfl) : SlR X (rSlL K) := h ▸ sl_list
theorem cr_sumK (hc : X.calm = true) (h : X.K = K := by rfl) : CallR X (.builtin "sum") (rSum K) := h ▸ cr_sum hc
theorem cr_allK (hc : X.calm = true) (h : X.K = K := by rfl) : CallR X (.builtin "all") (rAll K) := h ▸ cr_all hc
theorem call_isiK (h : X.K = K := by rfl) : CallR X (.builtin "isinstance") (rIsi K) := h ▸ call_isi
theorem pg_tupK {es : List Expr} {k n : Nat} {t : TGs} {pos : Pos} (hc : X.calm = true) (h : PGs X es t) (hK : X.K = K := by rfl)
    (hn : (assignEach es X.env).length = n := by rfl) (hst : (assignEach es X.env).findIdx? (·.1) = none := by rfl) : PG X (.Tuple es k pos) (gTup K n t) := hK ▸ pg_tup hc h hn hst
end
/-- f(k = v, ..), nothing by place -/
theorem pe_callN0 {X : Cx} {CX : CXT} {k : Nat} {f : Addr} {fd : FuncData} {ps ks : List Str} {sp : Sp} {E : XK} {x : Str} {p pos : Pos} {kws : List Keyword} {tk : TA} {g : List Value → List Value → List Value} {gV : List V → List V → List V}
    (F : FnOk X.prog X.w X.K X.mg X.base CX k f fd ps sp) (hr : Room k X.A) (hg : Gl X x) (hm : X.mg x = some (.ref f)) (hk : PySem.W.keepIn X.K (.ref f) = true) (hb : KBn X.K fd ps 0 ks g gV) (hx : Passes CX X E) (hkw : PK X kws tk)
    (hall : (backToKw pos (keywordEach kws X.env)).all (·.1.isSome) = true := by rfl) (hks : (backToKw pos (keywordEach kws X.env)).filterMap (·.1) = ks := by rfl) (hdb : (x == ("__debug__" : Str)) = false := by decide)
    (hpl : ((backTo pos (starEach [] X.env)).any (·.1) || (backToKw pos (keywordEach kws X.env)).any (·.1.isNone)) = false := by rfl) :
    PE X (.Call (.Name x p) [] kws pos) (tCallN 0 ks.length sp gV E tNil tk) := by
  refine ⟨fun pins s σ H Q I h => wpAny_Call_Name_kw (ld_glob I hg hm ?_ hdb)⟩
  refine PySem.W.callWith_KW0 (h₀ := X.base) I.ok.mod.kin hk hall (thn (hkw.run pos pins s σ H _ I h) fun ws s2 ⟨zs, H2, I2, rz, l1, l2, q2⟩ => ⟨I2.kIn, ?_⟩) hpl
  rw [hks]
  exact run_fnN (us := []) F hr hb hx I2 .nil rz l1 l2 q2
end Sw
/-! Words as lists of signs; what a def keeps of the heap; draws. -/
namespace Sw
open PySem PySem.Spec PyProof.Rows L2
/-- the text of these signs -/
abbrev S (l : List Nat) : Str := SX.S l
/-- all that was tracked is as it was, but for what stands at g -/
def But (g : Addr) (H H' : Hp) : Prop := ∀ b o, b ≠ g → H b = some o → H' b = some o
theorem But.refl (g : Addr) (H : Hp) : But g H H := fun _ _ _ h => h
theorem But.trans {g : Addr} {H H1 H2 : Hp} (a : But g H H1) (b : But g H1 H2) : But g H H2 := fun c o n h => b c o n (a c o n h)
theorem But.same {g : Addr} {H H' : Hp} (a : Same H H') : But g H H' := fun c o _ h => a c o h
theorem But.upd {g : Addr} {H : Hp} {o : HO} : But g H (upd H g o) := fun c u n h => by rw [upd_ne n]; exact h
theorem Same.upd {H : Hp} {p : Addr} {o : HO} (hp : H p = none) : Same H (upd H p o) := fun c u h => by rw [upd_ne (ne_of_none h hp)]; exact h
theorem But.new {g p : Addr} {H H1 : Hp} {o : HO} (a : But g H H1) (hp : H1 p = none) : But g H (L2.upd H1 p o) := a.trans (.same (Same.upd hp))
theorem But.seq {K : PySem.W.Frag} {g a : Addr} {H H' : Hp} {xs : List V} (e : But g H H') (n : a ≠ g) (h : SqL K H a xs) : SqL K H' a xs := by
  rcases h with (h | ⟨o, h⟩) | h
  · exact .inl (.inl (e _ _ n h))
  · exact .inl (.inr ⟨o, e _ _ n h⟩)
  · exact .inr h
/-- the drawing state: what is left of the seed, its hash's part, how many were drawn -/
def GenAt (H : Hp) (g : Addr) (n : Nat) : Prop := ∃ x y z : Int, H g = some (.lst [.int x, .int y, .int z]) ∧ (0 ≤ x ∧ x.natAbs < 2 ^ 2000) ∧ (0 ≤ y ∧ y < 2147483647) ∧ (0 ≤ z ∧ z ≤ (n : Int))
theorem GenAt.same {H H' : Hp} {g : Addr} {n : Nat} (e : Same H H') (h : GenAt H g n) : GenAt H' g n := by
  obtain ⟨x, y, z, h0, r⟩ := h
  exact ⟨x, y, z, e _ _ h0, r⟩
theorem GenAt.mono {H : Hp} {g : Addr} {n m : Nat} (h : GenAt H g n) (l : n ≤ m) : GenAt H g m := by
  obtain ⟨x, y, z, h0, hx, hy, hz⟩ := h
  exact ⟨x, y, z, h0, hx, hy, hz.1, by omega⟩
theorem GenAt.new {H : Hp} {g p : Addr} {n : Nat} {o : HO} (h : GenAt H g n) (hp : H p = none) : GenAt (upd H p o) g n := h.same (Same.upd hp)
theorem GenAt.ne {H : Hp} {g p : Addr} {n : Nat} (h : GenAt H g n) (hp : H p = none) : p ≠ g := by
  obtain ⟨x, y, z, h0, _⟩ := h
  exact (ne_of_none h0 hp).symm
/-! ### signs -/
def signB (c : Nat) : Bool := decide (97 ≤ c) && decide (c ≤ 122)
def wordB (l : List Nat) : Bool := l.all signB
def ascB (l : List Nat) : Bool := (l.zip l.tail).all fun p => decide (p.1 < p.2)
def jointsB (l : List Nat) : Bool := wordB l && ascB l
theorem one_lt {c d : Nat} : (([c] : List Nat) < [d]) ↔ c < d := by
  constructor
  · intro h
    cases h with
    | rel h => exact h
    | cons h => cases h
  · exact fun h => List.Lex.rel h
theorem sign_chain (c : Nat) : (if (!decide ((⟨#[c]⟩ : Str).cps.toList < (Str.ofString "a").cps.toList)) = true then !decide ((Str.ofString "z").cps.toList < (⟨#[c]⟩ : Str).cps.toList) else false) = signB c := by
  have e1 : (Str.ofString "a").cps.toList = [97] := by decide +kernel
  have e2 : (Str.ofString "z").cps.toList = [122] := by decide +kernel
  rw [e1, e2]
  show (if (!decide (([c] : List Nat) < [97])) = true then !decide (([122] : List Nat) < [c]) else false) = signB c
  unfold signB
  simp only [one_lt]
  by_cases h1 : c < 97
  · simp [h1, Nat.not_le.mpr h1]
  · by_cases h2 : 122 < c
    · simp [h1, h2]
    · simp [h1, h2, Nat.not_lt.mp h1, Nat.not_lt.mp h2]
theorem size_S {l : List Nat} : (S l).cps.size = l.length := by simp [SX.S]
theorem at_S {l : List Nat} {i : Nat} : (S l).cps[i]? = l[i]? := by simp [SX.S]
theorem len_S (l : List Nat) : (S l).length = l.length := SX.S_len l
theorem take_snoc {α : Type} {l : List α} {i : Nat} {x : α} (h : l[i]? = some x) : l.take (i + 1) = l.take i ++ [x] := by
  rw [List.take_add_one, h]
  rfl
end Sw
namespace Sw
open PySem PySem.Spec PyProof.Rows L2
theorem small_line {n : Nat} (h : n ≤ 100000) : n < sizeLine := Nat.lt_of_le_of_lt h (by decide)
theorem small_le {n : Nat} (h : n ≤ 100000) : n ≤ sizeLine := Nat.le_of_lt (small_line h)
end Sw
namespace Sw
open PySem PySem.Spec PyProof.Rows L2
/-! ### slices of texts -/
theorem cutS_from {l : List Nat} {i : Int} (h : 0 ≤ i) : cutS (S l) (some i) none = S (l.drop i.toNat) := by
  rw [C8.cutS_slice]; exact SX.slice_from h
theorem cutS_to {l : List Nat} {i : Int} (h : 0 ≤ i) : cutS (S l) none (some i) = S (l.take i.toNat) := by
  rw [C8.cutS_slice]; exact SX.slice_to h
end Sw
namespace Sw
open PySem PySem.Spec PyProof.Rows L2
theorem zip_tail {l : List Nat} {i c d : Nat} (h1 : l[i]? = some c) (h2 : (l.drop (1 : Int).toNat)[i]? = some d) : (l.zip l.tail)[i]? = some (c, d) := by
  rw [List.getElem?_zip_eq_some]
  refine ⟨h1, ?_⟩
  have e : l.drop (1 : Int).toNat = l.tail := List.drop_one
  rw [e] at h2
  exact h2
theorem zip_size {l : List Nat} : min (S l).cps.size (S (l.drop (1 : Int).toNat)).cps.size = (l.zip l.tail).length := by
  rw [size_S, size_S, List.length_zip]
  have e : l.drop (1 : Int).toNat = l.tail := List.drop_one
  rw [e]
theorem one_lt_S {c d : Nat} : decide ((⟨#[c]⟩ : Str).cps.toList < (⟨#[d]⟩ : Str).cps.toList) = decide (c < d) := by
  show decide (([c] : List Nat) < [d]) = decide (c < d)
  simp only [one_lt]
end Sw
namespace Sw
open PySem PySem.Spec PyProof.Rows L2
theorem cutS_mid {l : List Nat} {i j : Nat} (h : i ≤ j) (hj : j ≤ l.length) : cutS (S l) (some (i : Int)) (some (j : Int)) = S ((l.drop i).take (j - i)) := by
  unfold cutS
  rw [HT.sIx_nat, HT.sIx_nat, len_S, Nat.min_eq_left hj, Nat.min_eq_left (Nat.le_trans h hj)]
/-! ### the first place of a sign -/
open PySem.StrLaws in
theorem occ_full (s sub : Str) (hi : Nat) (p : Nat) : ∀ (l : List Nat) (f : Nat), (forIn l ((#[p] : Array Nat), f) (occBody s sub hi 1)).run.fst = #[p]
  | [], f => rfl
  | a :: l, f => by
    rw [List.forIn_cons]
    unfold occBody
    rw [if_neg (by simp)]
    exact occ_full s sub hi p l f
open PySem.StrLaws in
theorem occ_to (s sub : Str) (hi p : Nat) (hp : p + sub.length ≤ hi) (hs : Builtin.Str.subAt s sub p = true) : ∀ (n a f : Nat), f ≤ a → a ≤ p → p < a + n → (∀ i, a ≤ i → i < p → ¬ Builtin.Str.subAt s sub i = true) →
    (forIn (List.range' a n) ((#[] : Array Nat), f) (occBody s sub hi 1)).run.fst = #[p]
  | 0, a, f, _, h1, h2, _ => by omega
  | n + 1, a, f, h0, h1, h2, hn => by
    rw [List.range'_succ, List.forIn_cons]
    by_cases e : a = p
    · subst e
      unfold occBody
      rw [if_pos ⟨⟨⟨by simp, h0⟩, hp⟩, hs⟩]
      exact occ_full s sub hi a _ _
    · unfold occBody
      rw [if_neg (fun z => hn a (Nat.le_refl _) (by omega) z.2)]
      exact occ_to s sub hi p hp hs n (a + 1) f (by omega) (by omega) (by omega) fun i h3 h4 => hn i (by omega) h4
theorem first_sign {l : List Nat} {c p : Nat} (h : l[p]? = some c) (hn : ∀ i, i < p → l[i]? ≠ some c) : Builtin.Str.occurrences (S l) (S [c]) 0 (S l).length 1 = [p] := by
  have hp : p < l.length := (List.getElem?_eq_some_iff.mp h).1
  have e1 : (S [c]).length = 1 := rfl
  have at1 := PySem.StrLaws.subAt_one (S l) c
  rw [PySem.StrLaws.occ_eq, occ_to (S l) (S [c]) (S l).length p (by rw [e1, len_S]; omega) ((at1 p).mpr h).2 _ 0 0 (Nat.le_refl _) (Nat.zero_le _) (by rw [len_S]; omega) fun i _ h4 z => hn i h4 ((at1 i).mp ⟨?_, z⟩)]
  show i + 1 ≤ (S l).length
  rw [len_S]
  omega
end Sw
namespace Sw
open PySem PySem.Spec PyProof.Rows L2
/-! ### the deed -/
def swapL (l : List Nat) (p : Nat) : List Nat := l.drop (p + 1) ++ (l.drop p).take 1 ++ l.take p
theorem drop_one {l : List Nat} {p c : Nat} (h : l[p]? = some c) : (l.drop p).take 1 = [c] := by
  obtain ⟨hp, e⟩ := List.getElem?_eq_some_iff.mp h
  rw [List.drop_eq_getElem_cons hp, e]
  rfl
theorem swapL_one {l : List Nat} {p c : Nat} (h : l[p]? = some c) : swapL l p = l.drop (p + 1) ++ [c] ++ l.take p := by
  unfold swapL
  rw [drop_one h]
theorem swapL_len {l : List Nat} {p : Nat} (h : p < l.length) : (swapL l p).length = l.length := by
  unfold swapL
  simp
  omega
theorem swapL_mem {l : List Nat} {p c : Nat} (h : c ∈ swapL l p) : c ∈ l := by
  unfold swapL at h
  rcases List.mem_append.mp h with h | h
  · rcases List.mem_append.mp h with h | h
    · exact List.mem_of_mem_drop h
    · exact List.mem_of_mem_drop (List.mem_of_mem_take h)
  · exact List.mem_of_mem_take h
/-- at the place counted from the end the same sign, and its deed leads back -/
theorem swapL_at {l : List Nat} {p : Nat} (h : p < l.length) : (swapL l p)[l.length - 1 - p]? = l[p]? := by
  have hc : l[p]? = some l[p] := List.getElem?_eq_getElem h
  rw [swapL_one hc, hc, List.append_assoc, List.getElem?_append_right (by rw [List.length_drop]; omega), List.length_drop, show l.length - 1 - p - (l.length - (p + 1)) = 0 by omega]
  rfl
theorem swapL_back {l : List Nat} {p : Nat} (h : p < l.length) : swapL (swapL l p) (l.length - 1 - p) = l := by
  have hc : l[p]? = some l[p] := List.getElem?_eq_getElem h
  rw [swapL_one ((swapL_at h).trans hc), swapL_one hc]
  have e1 : (l.drop (p + 1)).length = l.length - 1 - p := by rw [List.length_drop]; omega
  have e2 : (l.drop (p + 1) ++ [l[p]]).length = l.length - 1 - p + 1 := by rw [List.length_append, e1]; rfl
  rw [List.drop_left' e2, List.append_assoc (l.drop (p + 1)), List.take_left' e1, List.append_assoc]
  rw [List.singleton_append, ← List.drop_eq_getElem_cons h, List.take_append_drop]
/-- the places at which a joint stands -/
def openL (l js : List Nat) : List Nat := (List.range l.length).filter fun i => (l[i]?).any fun c => decide (c ∈ js)
theorem openL_len (l js : List Nat) : (openL l js).length ≤ l.length := by
  unfold openL
  have h := List.length_filter_le (fun i => (l[i]?).any fun c => decide (c ∈ js)) (List.range l.length)
  rw [List.length_range] at h
  exact h
theorem openL_snoc {l : List Nat} (js : List Nat) {i c : Nat} (h : l[i]? = some c) : openL (l.take (i + 1)) js = openL (l.take i) js ++ (if c ∈ js then [i] else []) := by
  obtain ⟨hi, e⟩ := List.getElem?_eq_some_iff.mp h
  have l1 : (l.take (i + 1)).length = i + 1 := by rw [List.length_take]; omega
  have l2 : (l.take i).length = i := by rw [List.length_take]; omega
  unfold openL
  rw [l1, l2, List.range_succ, List.filter_append]
  congr 1
  · refine List.filter_congr fun k hk => ?_
    have hk' : k < i := List.mem_range.mp hk
    rw [List.getElem?_take_of_lt (by omega), List.getElem?_take_of_lt hk']
  · rw [List.filter_cons, List.getElem?_take_of_lt (by omega), h]
    by_cases hm : c ∈ js <;> simp [hm]
theorem mem_openL {l js : List Nat} {i : Nat} (h : i ∈ openL l js) : ∃ c, l[i]? = some c ∧ c ∈ js := by
  unfold openL at h
  obtain ⟨_, h2⟩ := List.mem_filter.mp h
  cases e : l[i]? with
  | none => rw [e] at h2; cases h2
  | some c =>
    rw [e] at h2
    exact ⟨c, rfl, of_decide_eq_true h2⟩
end Sw
namespace Sw
open PySem PySem.Spec PyProof.Rows L2
theorem wordB_mem {l : List Nat} (h : wordB l = true) {c : Nat} (hc : c ∈ l) : 97 ≤ c ∧ c ≤ 122 := by
  have q := List.all_eq_true.mp h c hc
  unfold signB at q
  rw [Bool.and_eq_true] at q
  exact ⟨of_decide_eq_true q.1, of_decide_eq_true q.2⟩
theorem wordB_of {l : List Nat} (h : ∀ c ∈ l, 97 ≤ c ∧ c ≤ 122) : wordB l = true := by
  refine List.all_eq_true.mpr fun c hc => ?_
  unfold signB
  rw [decide_eq_true (h c hc).1, decide_eq_true (h c hc).2]
  rfl
theorem underscore : Str.ofString "_" = S [95] := by decide +kernel
/-- the ring with its hole at p, read from behind the hole on -/
theorem ring_hole {l : List Nat} {p c : Nat} (hw : wordB l = true) (hc : l[p]? = some c) :
    Builtin.Str.occurrences (S (l.take p ++ [95] ++ l.drop (p + 1) ++ [c])) (S [95]) 0 (S (l.take p ++ [95] ++ l.drop (p + 1) ++ [c])).length 1 = [p] := by
  obtain ⟨hp, e⟩ := List.getElem?_eq_some_iff.mp hc
  have lt : (l.take p).length = p := by rw [List.length_take]; omega
  refine first_sign ?_ fun i hi z => ?_
  · rw [List.append_assoc, List.append_assoc, List.getElem?_append_right (by omega), lt, Nat.sub_self]
    rfl
  · rw [List.append_assoc, List.append_assoc, List.getElem?_append_left (by omega)] at z
    have := wordB_mem hw (List.mem_of_mem_take (List.mem_of_getElem? z))
    omega
theorem ring_from {l : List Nat} {p c : Nat} (hp : p < l.length) : (l.take p ++ [95] ++ l.drop (p + 1) ++ [c]).drop (p + 1) = l.drop (p + 1) ++ [c] := by
  have lt : (l.take p ++ [95]).length = p + 1 := by rw [List.length_append, List.length_take]; simp; omega
  rw [List.append_assoc, List.drop_left' lt]
theorem ring_to {l : List Nat} {p c : Nat} (hp : p < l.length) : (l.take p ++ [95] ++ l.drop (p + 1) ++ [c]).take p = l.take p := by
  have lt : (l.take p).length = p := by rw [List.length_take]; omega
  rw [List.append_assoc, List.append_assoc, List.take_left' lt]
end Sw
namespace Sw
open PySem PySem.Spec PyProof.Rows L2
theorem cutV_to1 {ns : List Int} : some (HO.lst (cutV (ns.map V.int) none (some 1))) = some (HO.lst ((ns.take 1).map V.int)) := by
  have e : cutV (ns.map V.int) none (some 1) = (ns.map V.int).take 1 := by
    unfold cutV
    rw [HT.sIx_none, show (some (1 : Int)) = some ((1 : Nat) : Int) from rfl, HT.sIx_nat, List.drop_zero, Nat.sub_zero]
    rcases Nat.lt_or_ge (ns.map V.int).length 1 with h | h
    · rw [Nat.min_eq_right (by omega), List.take_length, List.take_of_length_le (by omega)]
    · rw [Nat.min_eq_left h]
  rw [e, List.map_take]
theorem seed_ok (x : Int) : 0 ≤ x % (10 ^ (60 : Int).toNat) ^ (10 : Int).toNat ∧ (x % (10 ^ (60 : Int).toNat) ^ (10 : Int).toNat).natAbs < 2 ^ 2000 := by
  have h0 : (0 : Int) < (10 ^ (60 : Int).toNat) ^ (10 : Int).toNat := by decide +kernel
  have h1 : ((10 ^ (60 : Int).toNat) ^ (10 : Int).toNat : Int).natAbs < 2 ^ 2000 := by decide +kernel
  have a := Int.emod_nonneg x (show ((10 ^ (60 : Int).toNat) ^ (10 : Int).toNat : Int) ≠ 0 by omega)
  have b := Int.emod_lt_of_pos x h0
  exact ⟨a, Nat.lt_of_lt_of_le (by omega) (Nat.le_of_lt h1)⟩
theorem joinL_signs : ∀ ws : List Nat, TL.joinL [] (ws.map fun c => [c]) = ws
  | [] => rfl
  | [c] => rfl
  | c :: d :: r => by
    have ih := joinL_signs (d :: r)
    show [c] ++ ([] ++ TL.joinL [] ((d :: r).map fun c => [c])) = c :: d :: r
    rw [ih]
    rfl
theorem join_signs (ws : List Nat) : Txt.join (Str.ofString "") (ws.map fun c => S [c]) = S ws := by
  have e0 : Str.ofString "" = S [] := by decide +kernel
  have e1 : (ws.map fun c => S [c]) = (ws.map fun c => [c]).map SX.S := by rw [List.map_map]; rfl
  rw [e0, e1, SX.join_S, joinL_signs]
theorem join_bound {ws : List Nat} (h : ws.length ≤ 100000) : ((ws.map fun c => S [c]).map (·.length)).sum + (ws.map fun c => S [c]).length * (Str.ofString "").length ≤ 16777216 := by
  have e0 : (Str.ofString "").length = 0 := by decide +kernel
  have e1 : ((ws.map fun c => S [c]).map (·.length)).sum = ws.length := by
    rw [List.map_map]
    have : ((fun x : Str => x.length) ∘ fun c => S [c]) = fun _ : Nat => 1 := funext fun c => rfl
    rw [this, List.map_const', List.sum_replicate_nat, Nat.mul_one]
  rw [e0, e1]
  omega
theorem alpha_len : (Str.ofString "abcdefghijklmnopqrstuvwxyz").length = 26 := by decide +kernel
theorem alpha_at (i : Nat) (h : i < 26) : (Str.ofString "abcdefghijklmnopqrstuvwxyz").cps[i]? = some (97 + i) := by
  have all : ∀ k : Fin 26, (Str.ofString "abcdefghijklmnopqrstuvwxyz").cps[k.val]? = some (97 + k.val) := by decide +kernel
  exact all ⟨i, h⟩
end Sw
namespace Sw
open PySem PySem.Spec PyProof.Rows L2
/-! ### lists of places compared -/
abbrev placesV (ns : List Nat) : List V := ns.map fun i => V.int (i : Nat)
def placesD (ns : List Nat) : List PyData := ns.map fun i => PyData.int (i : Nat)
theorem places_dp {K : PySem.W.Frag} {H : Hp} : ∀ ns : List Nat, DpAll K H (placesV ns) (placesD ns)
  | [] => .nil
  | n :: r => .cons (.int _) (places_dp r)
theorem places_lay : ∀ ns : List Nat, PyData.canLayAll0 (placesD ns) = true
  | [] => rfl
  | n :: r => by
    show (PyData.canLay0 (.int (n : Nat)) && PyData.canLayAll0 (placesD r)) = true
    rw [places_lay r]
    rfl
theorem places_depth : ∀ ns : List Nat, PyData.depthAll (placesD ns) = 0
  | [] => rfl
  | n :: r => by
    show max (PyData.depth (.int (n : Nat))) (PyData.depthAll (placesD r)) = 0
    rw [places_depth r]
    rfl
theorem places_shaped (ns : List Nat) : SeqAt.shaped (.list (placesD ns)) = true := by
  unfold SeqAt.shaped
  have e : (PyData.list (placesD ns)).depth = 1 := by
    show PyData.depthAll (placesD ns) + 1 = 1
    rw [places_depth]
  have e2 : (PyData.list (placesD ns)).canLay0 = true := places_lay ns
  rw [e, e2]
  rfl
theorem places_eqv (ns : List Nat) : PyData.eqv (.list (placesD ns)) (.list (placesD ns)) = true := PySem.SeqAt.eqv_refl _ (places_lay ns)
/-- a test that two lists of places are unlike, which they are not -/
theorem ne_places {K : PySem.W.Frag} {H : Hp} {a b : Addr} {ns : List Nat} {Q : VK} (ha : SqL K H a (placesV ns)) (hb : SqL K H b (placesV ns)) (q : Q (.bl false) H) : rNeD K (.ref a) (.ref b) H Q := by
  refine ⟨_, _, .lst ha (places_dp ns), .lst hb (places_dp ns), places_shaped ns, places_shaped ns, ?_⟩
  rw [places_eqv]
  exact q
/-- one of three -/
theorem pick3 {a b c r : Int} (h0 : 0 ≤ r) (h1 : r < 3) {m : Int} (ha : 0 ≤ a ∧ a ≤ m) (hb : 0 ≤ b ∧ b ≤ m) (hc : 0 ≤ c ∧ c ≤ m) : ∃ n : Nat, atI [V.int a, V.int b, V.int c] r = some (V.int (n : Nat)) ∧ (n : Int) ≤ m := by
  have e : r = 0 ∨ r = 1 ∨ r = 2 := by omega
  rcases e with rfl | rfl | rfl
  · exact ⟨a.toNat, by show some (V.int a) = _; rw [Int.toNat_of_nonneg ha.1], by omega⟩
  · exact ⟨b.toNat, by show some (V.int b) = _; rw [Int.toNat_of_nonneg hb.1], by omega⟩
  · exact ⟨c.toNat, by show some (V.int c) = _; rw [Int.toNat_of_nonneg hc.1], by omega⟩
theorem ascB_of {l : List Nat} (h : l.Pairwise (· < ·)) : ascB l = true := by
  unfold ascB
  refine List.all_eq_true.mpr fun p hp => ?_
  refine decide_eq_true ?_
  induction h with
  | nil => cases hp
  | @cons a r hr _ ih =>
    cases r with
    | nil => cases hp
    | cons b t =>
      have hp' : p ∈ (a, b) :: ((b :: t).zip t) := hp
      rcases List.mem_cons.mp hp' with e | hp'
      · rw [e]; exact hr b List.mem_cons_self
      · exact ih hp'
theorem jointsB_of {l : List Nat} (h : l.Pairwise (· < ·)) (hw : ∀ c ∈ l, 97 ≤ c ∧ c ≤ 122) : jointsB l = true := by
  unfold jointsB
  rw [wordB_of hw, ascB_of h]
  rfl
theorem jointsB_one {c : Nat} (h : 97 ≤ c ∧ c ≤ 122) : jointsB [c] = true := jointsB_of (List.pairwise_singleton _ _) fun d hd => by rw [List.mem_singleton.mp hd]; exact h
/-- some of the places: the first twelve and the last two -/
theorem cutV_to12 (xs : List V) : cutV xs none (some 12) = xs.take 12 := by
  unfold cutV
  rw [HT.sIx_none, show (some (12 : Int)) = some ((12 : Nat) : Int) from rfl, HT.sIx_nat, List.drop_zero, Nat.sub_zero]
  rcases Nat.lt_or_ge xs.length 12 with h | h
  · rw [Nat.min_eq_right (by omega), List.take_length, List.take_of_length_le (by omega)]
  · rw [Nat.min_eq_left h]
theorem openL_nil (l : List Nat) : openL l [] = [] := by
  unfold openL
  refine List.filter_eq_nil_iff.mpr fun i _ => ?_
  cases l[i]? <;> simp
theorem cutV_from {xs : List V} {k : Nat} (h : k ≤ xs.length) : cutV xs (some (k : Int)) none = xs.drop k := by
  unfold cutV
  rw [HT.sIx_none, HT.sIx_nat, Nat.min_eq_left h, List.take_of_length_le (by rw [List.length_drop]; omega)]
end Sw
namespace Sw
open PySem PySem.Spec PyProof.Rows L2
/-- what was not there before may change -/
theorem But.after {g : Addr} {H H1 H2 : Hp} (b : But g H1 H2) (s : Same H H1) (hg : H g = none) : Same H H2 := fun c o h => b c o (ne_of_none h hg) (s c o h)
end Sw
/-! Roads, what they move, what they cost. -/
namespace Sw
open PySem PySem.Spec PyProof.Rows L2
/-- the word to which a road leads; the words it passes -/
def ends (l r : List Nat) : List Nat := r.foldl swapL l
def pass (l : List Nat) : List Nat → List (List Nat)
  | [] => [l]
  | p :: r => l :: pass (swapL l p) r
def IsRoad (js l : List Nat) : List Nat → Prop
  | [] => True
  | p :: r => (∃ c, l[p]? = some c ∧ c ∈ js) ∧ IsRoad js (swapL l p) r
def backL (n : Nat) (r : List Nat) : List Nat := r.reverse.map fun p => n - 1 - p
theorem ends_cons (l : List Nat) (p : Nat) (r : List Nat) : ends l (p :: r) = ends (swapL l p) r := rfl
theorem ends_append (l r q : List Nat) : ends l (r ++ q) = ends (ends l r) q := by unfold ends; rw [List.foldl_append]
theorem ends_snoc (l r : List Nat) (p : Nat) : ends l (r ++ [p]) = swapL (ends l r) p := by rw [ends_append]; rfl
theorem pass_len (l r : List Nat) : (pass l r).length = r.length + 1 := by
  induction r generalizing l with
  | nil => rfl
  | cons p r ih => unfold pass; rw [List.length_cons, ih]; rfl
theorem pass_snoc (l r : List Nat) (p : Nat) : pass l (r ++ [p]) = pass l r ++ [ends l (r ++ [p])] := by
  induction r generalizing l with
  | nil => rfl
  | cons q r ih =>
    show l :: pass (swapL l q) (r ++ [p]) = l :: pass (swapL l q) r ++ [ends (swapL l q) (r ++ [p])]
    rw [ih]
    rfl
theorem pass_last (l r : List Nat) : (pass l r)[r.length]? = some (ends l r) := by
  induction r generalizing l with
  | nil => rfl
  | cons p r ih => show (l :: pass (swapL l p) r)[r.length + 1]? = _; rw [List.getElem?_cons_succ, ih]; rfl
theorem road_lt {js l r : List Nat} (h : IsRoad js l r) : ∀ p ∈ r, p < l.length := by
  induction r generalizing l with
  | nil => intro p hp; cases hp
  | cons q r ih =>
    obtain ⟨⟨c, hc, _⟩, h2⟩ := h
    have hq : q < l.length := (List.getElem?_eq_some_iff.mp hc).1
    intro p hp
    rcases List.mem_cons.mp hp with e | hp
    · rw [e]; exact hq
    · have := ih h2 p hp
      rw [swapL_len hq] at this
      exact this
theorem ends_len {l r : List Nat} (h : ∀ p ∈ r, p < l.length) : (ends l r).length = l.length := by
  induction r generalizing l with
  | nil => rfl
  | cons q r ih =>
    have hq := h q List.mem_cons_self
    rw [ends_cons, ih fun p hp => by rw [swapL_len hq]; exact h p (List.mem_cons_of_mem _ hp), swapL_len hq]
theorem ends_mem {l r : List Nat} {c : Nat} (h : c ∈ ends l r) : c ∈ l := by
  induction r generalizing l with
  | nil => exact h
  | cons q r ih => exact swapL_mem (ih h)
theorem road_append {js l r q : List Nat} : IsRoad js l (r ++ q) ↔ IsRoad js l r ∧ IsRoad js (ends l r) q := by
  induction r generalizing l with
  | nil => exact ⟨fun h => ⟨trivial, h⟩, fun h => h.2⟩
  | cons p r ih =>
    constructor
    · rintro ⟨h1, h2⟩
      exact ⟨⟨h1, (ih.mp h2).1⟩, (ih.mp h2).2⟩
    · rintro ⟨⟨h1, h2⟩, h3⟩
      exact ⟨h1, ih.mpr ⟨h2, h3⟩⟩
theorem road_at {js l r : List Nat} {i p : Nat} (h : IsRoad js l r) (hi : r[i]? = some p) : ∃ c, (ends l (r.take i))[p]? = some c ∧ c ∈ js := by
  have e : r = r.take i ++ p :: r.drop (i + 1) := by
    obtain ⟨hl, e⟩ := List.getElem?_eq_some_iff.mp hi
    rw [← e, ← List.drop_eq_getElem_cons hl, List.take_append_drop]
  rw [e] at h
  exact (road_append.mp h).2.1
theorem ends_take {l r : List Nat} {i p : Nat} (hi : r[i]? = some p) : ends l (r.take (i + 1)) = swapL (ends l (r.take i)) p := by
  rw [take_snoc hi, ends_snoc]
theorem pass_take {l r : List Nat} {i p : Nat} (hi : r[i]? = some p) : pass l (r.take (i + 1)) = pass l (r.take i) ++ [ends l (r.take (i + 1))] := by
  rw [take_snoc hi, pass_snoc]
theorem road_take {js l r : List Nat} {i : Nat} (h : IsRoad js l r) : IsRoad js l (r.take i) := by
  have e : r = r.take i ++ r.drop i := (List.take_append_drop i r).symm
  rw [e] at h
  exact (road_append.mp h).1
theorem backL_cons (n p : Nat) (r : List Nat) : backL n (p :: r) = backL n r ++ [n - 1 - p] := by
  unfold backL
  rw [List.reverse_cons, List.map_append]
  rfl
theorem back_ends {l r : List Nat} (h : ∀ p ∈ r, p < l.length) : ends (ends l r) (backL l.length r) = l := by
  induction r generalizing l with
  | nil => rfl
  | cons p r ih =>
    have hp := h p List.mem_cons_self
    have hr : ∀ q ∈ r, q < (swapL l p).length := fun q hq => by rw [swapL_len hp]; exact h q (List.mem_cons_of_mem _ hq)
    have := ih hr
    rw [swapL_len hp] at this
    rw [backL_cons, ends_snoc, ends_cons, this, swapL_back hp]
theorem back_road {js l r : List Nat} (h : IsRoad js l r) : IsRoad js (ends l r) (backL l.length r) := by
  induction r generalizing l with
  | nil => trivial
  | cons p r ih =>
    obtain ⟨⟨c, hc, hm⟩, h2⟩ := h
    have hp : p < l.length := (List.getElem?_eq_some_iff.mp hc).1
    have i2 := ih h2
    have e2 := back_ends (road_lt h2)
    rw [swapL_len hp] at i2 e2
    rw [backL_cons, road_append, ends_cons]
    refine ⟨i2, ⟨c, ?_, hm⟩, trivial⟩
    rw [e2]
    exact (swapL_at hp).trans hc
/-! ### what goes along: the same for the places as for the signs -/
theorem swapL_map (f : Nat → Nat) (l : List Nat) (p : Nat) : swapL (l.map f) p = (swapL l p).map f := by
  unfold swapL
  rw [List.map_append, List.map_append, List.map_drop, List.map_take, List.map_drop, List.map_take]
theorem ends_map (f : Nat → Nat) (l r : List Nat) : ends (l.map f) r = (ends l r).map f := by
  induction r generalizing l with
  | nil => rfl
  | cons p r ih => rw [ends_cons, ends_cons, swapL_map, ih]
theorem range_get (l : List Nat) : (List.range l.length).map (fun i => l.getD i 0) = l := by
  refine List.ext_getElem (by simp) fun i h1 h2 => ?_
  simp at h1
  simp [h1]
theorem moved_get (l r : List Nat) : (ends (List.range l.length) r).map (fun i => l.getD i 0) = ends l r := by
  rw [← ends_map, range_get]
/-! ### prices -/
def PricesOk (ps : List (Nat × Int)) : Prop := (∀ q ∈ ps, (97 ≤ q.1 ∧ q.1 ≤ 122) ∧ 1 ≤ q.2) ∧ (ps.map (·.1)).Pairwise (· < ·)
def priceAt (ps : List (Nat × Int)) (c : Nat) : Int := ((ps.find? fun q => decide (q.1 = c)).map (·.2)).getD 0
def costL (ps : List (Nat × Int)) (l : List Nat) : List Nat → Int
  | [] => 0
  | p :: r => priceAt ps (l.getD p 0) + costL ps (swapL l p) r
theorem cost_append (ps : List (Nat × Int)) (l r q : List Nat) : costL ps l (r ++ q) = costL ps l r + costL ps (ends l r) q := by
  induction r generalizing l with
  | nil => show costL ps l q = 0 + costL ps l q; omega
  | cons p r ih => show priceAt ps (l.getD p 0) + costL ps (swapL l p) (r ++ q) = _; rw [ih, ends_cons]; show _ = (priceAt ps (l.getD p 0) + costL ps (swapL l p) r) + _; omega
theorem cost_take {ps : List (Nat × Int)} {l r : List Nat} {i p : Nat} (hi : r[i]? = some p) : costL ps l (r.take (i + 1)) = costL ps l (r.take i) + priceAt ps ((ends l (r.take i)).getD p 0) := by
  rw [take_snoc hi, cost_append]
  show _ + (priceAt ps _ + 0) = _
  omega
theorem cost_back (ps : List (Nat × Int)) {l r : List Nat} (h : ∀ p ∈ r, p < l.length) : costL ps (ends l r) (backL l.length r) = costL ps l r := by
  induction r generalizing l with
  | nil => rfl
  | cons p r ih =>
    have hp := h p List.mem_cons_self
    have hr : ∀ q ∈ r, q < (swapL l p).length := fun q hq => by rw [swapL_len hp]; exact h q (List.mem_cons_of_mem _ hq)
    have i2 := ih hr
    have e2 := back_ends hr
    rw [swapL_len hp] at i2 e2
    rw [backL_cons, cost_append, ends_cons, i2, e2]
    show costL ps (swapL l p) r + (priceAt ps ((swapL l p).getD (l.length - 1 - p) 0) + 0) = priceAt ps (l.getD p 0) + costL ps (swapL l p) r
    have e3 : (swapL l p).getD (l.length - 1 - p) 0 = l.getD p 0 := by rw [List.getD_eq_getElem?_getD, List.getD_eq_getElem?_getD, swapL_at hp]
    rw [e3]
    omega
/-- the price of a letter is the sum of all prices of this letter -/
theorem price_sum {ps : List (Nat × Int)} (h : (ps.map (·.1)).Pairwise (· < ·)) (c : Nat) : ((ps.filter fun q => decide (q.1 = c)).map (·.2)).sum = priceAt ps c := by
  induction ps with
  | nil => rfl
  | cons q r ih =>
    have h' : (q.1 :: r.map (·.1)).Pairwise (· < ·) := h
    obtain ⟨h1, h2⟩ := List.pairwise_cons.mp h'
    unfold priceAt
    rw [List.filter_cons, List.find?_cons]
    by_cases e : q.1 = c
    · have hno : r.filter (fun q => decide (q.1 = c)) = [] := List.filter_eq_nil_iff.mpr fun y hy z => by
        have := h1 y.1 (List.mem_map_of_mem hy)
        have := of_decide_eq_true z
        omega
      simp [e, hno]
    · have := ih h2
      unfold priceAt at this
      simp only [e, decide_false]
      exact this
theorem price_find {ps : List (Nat × Int)} {c : Nat} (h : c ∈ ps.map (·.1)) : ∃ v, (ps.find? fun q => decide (q.1 = c)) = some v ∧ v.2 = priceAt ps c := by
  unfold priceAt
  cases e : ps.find? fun q => decide (q.1 = c) with
  | some v => exact ⟨v, rfl, rfl⟩
  | none =>
    obtain ⟨q, hq, rfl⟩ := List.mem_map.mp h
    exact absurd (decide_eq_true rfl) (List.find?_eq_none.mp e q hq)
/-- prices as they stand in the heap -/
def PriceT (H : Hp) (t : V) (q : Nat × Int) : Prop := ∃ a, t = .ref a ∧ H a = some (.tup [.str (S [q.1]), .int q.2])
def PricesAt (H : Hp) (a : Addr) (ps : List (Nat × Int)) : Prop := ∃ ts : List V, H a = some (.lst ts) ∧ Paired (PriceT H) ts ps
theorem PriceT.same {H H' : Hp} {t : V} {q : Nat × Int} (s : Same H H') (h : PriceT H t q) : PriceT H' t q := by
  obtain ⟨a, e, h⟩ := h
  exact ⟨a, e, s _ _ h⟩
theorem PricesAt.same {H H' : Hp} {a : Addr} {ps : List (Nat × Int)} (s : Same H H') (h : PricesAt H a ps) : PricesAt H' a ps := by
  obtain ⟨ts, h1, h2⟩ := h
  exact ⟨ts, s _ _ h1, Paired.mapP h2 fun t q z => PriceT.same s z⟩
theorem Paired.len {α β : Type} {F : α → β → Prop} : ∀ {xs : List α} {ys : List β}, Paired F xs ys → xs.length = ys.length
  | _, _, .nil => rfl
  | _, _, .cons _ t => congrArg Nat.succ (Paired.len t)
theorem Paired.at {α β : Type} {F : α → β → Prop} : ∀ {xs : List α} {ys : List β} {i : Nat} {x : α}, Paired F xs ys → xs[i]? = some x → ∃ y, ys[i]? = some y ∧ F x y
  | _, _, _, _, .nil, e => by simp at e
  | _, _, 0, x, .cons r _, e => by simp at e; subst e; exact ⟨_, rfl, r⟩
  | _, _, i + 1, x, .cons _ t, e => Paired.at (i := i) t (by simpa using e)
theorem Paired.snoc {α β : Type} {F : α → β → Prop} : ∀ {xs : List α} {ys : List β} {x : α} {y : β}, Paired F xs ys → F x y → Paired F (xs ++ [x]) (ys ++ [y])
  | _, _, _, _, .nil, h => .cons h .nil
  | _, _, _, _, .cons r t, h => .cons r (Paired.snoc t h)
/-- the dict of prices -/
def pricesK (ps : List (Nat × Int)) : List (Key × V) := ps.map fun q => (Sum.inr (S [q.1]), V.int q.2)
theorem mergeK_new : ∀ (more kvs : List (Key × V)), (∀ q ∈ more, valV kvs q.1 = none) → (more.map (·.1)).Nodup → mergeK kvs more = kvs ++ more
  | [], kvs, _, _ => (List.append_nil kvs).symm
  | q :: r, kvs, h, nd => by
    obtain ⟨n1, n2⟩ := List.nodup_cons.mp (show (q.1 :: r.map (·.1)).Nodup from nd)
    have e := putK_new q.2 (h q List.mem_cons_self)
    show mergeK (putK kvs q.1 q.2) r = kvs ++ q :: r
    rw [e, mergeK_new r _ (fun y hy => ?_) n2, List.append_assoc]
    · rfl
    · rw [valV_snoc _ _ _ _ (h q List.mem_cons_self), if_neg (fun z : y.1 = q.1 => n1 (by rw [← z]; exact List.mem_map_of_mem hy))]
      exact h y (List.mem_cons_of_mem _ hy)
theorem S_one_inj {c d : Nat} (h : S [c] = S [d]) : c = d := by
  have := SX.S_inj h
  injection this
theorem prices_merge {ps : List (Nat × Int)} (h : (ps.map (·.1)).Pairwise (· < ·)) : mergeK [] (pricesK ps) = pricesK ps := by
  rw [mergeK_new (pricesK ps) [] (fun _ _ => rfl) ?_, List.nil_append]
  unfold pricesK
  rw [List.map_map]
  have e : ((fun x : Key × V => x.1) ∘ fun q : Nat × Int => ((Sum.inr (S [q.1]) : Key), V.int q.2)) = (fun c : Nat => (Sum.inr (S [c]) : Key)) ∘ fun q : Nat × Int => q.1 := rfl
  rw [e, ← List.map_map, List.Nodup, List.pairwise_map]
  refine h.imp fun {a b} lt z => ?_
  have := S_one_inj (Sum.inr.inj z)
  omega
theorem prices_val {ps : List (Nat × Int)} {c : Nat} (h : c ∈ ps.map (·.1)) : valV (pricesK ps) (Sum.inr (S [c])) = some (V.int (priceAt ps c)) := by
  obtain ⟨v, hv, e⟩ := price_find h
  rw [← e]
  unfold valV pricesK
  rw [List.find?_map]
  have e2 : ((fun kv : Key × V => decide (kv.1 = Sum.inr (S [c]))) ∘ fun q : Nat × Int => ((Sum.inr (S [q.1]) : Key), V.int q.2)) = fun q : Nat × Int => decide (q.1 = c) := by
    funext q
    show decide ((Sum.inr (S [q.1]) : Key) = Sum.inr (S [c])) = decide (q.1 = c)
    by_cases z : q.1 = c
    · rw [z]; simp
    · rw [decide_eq_false z, decide_eq_false fun y => z (S_one_inj (Sum.inr.inj y))]
  rw [e2, hv]
  rfl
end Sw
namespace Sw
open PySem PySem.Spec PyProof.Rows L2
theorem cutV_tail (xs : List V) : cutV xs (some 1) none = xs.tail := by
  unfold cutV
  rw [HT.sIx_none, show (some (1 : Int)) = some ((1 : Nat) : Int) from rfl, HT.sIx_nat]
  cases xs with
  | nil => rfl
  | cons x r =>
    have e : min 1 (x :: r).length = 1 := by simp
    rw [e, List.take_of_length_le (by simp)]
    rfl
theorem one_lt_S' {c d : Nat} : decide ((S [c]).cps.toList < (S [d]).cps.toList) = decide (c < d) := one_lt_S
abbrev wordsV (ws : List (List Nat)) : List V := ws.map fun l => V.str (S l)
theorem place_of {r : List Nat} {i : Nat} {y : V} (h : (placesV r)[i]? = some y) : ∃ p, r[i]? = some p ∧ y = V.int (p : Nat) := by
  rw [List.getElem?_map] at h
  obtain ⟨p, hp, e⟩ := Option.map_eq_some_iff.mp h
  exact ⟨p, hp, e.symm⟩
theorem at_last {xs : List V} {v : V} (h : xs[xs.length - 1]? = some v) : atI xs (-1) = some v := by
  have hl : 0 < xs.length := by
    have := (List.getElem?_eq_some_iff.mp h).1
    omega
  unfold atI ixN
  rw [if_neg (by omega), if_pos (by omega)]
  show xs[((xs.length : Int) + -1).toNat]? = some v
  rw [show ((xs.length : Int) + -1).toNat = xs.length - 1 by omega]
  exact h
theorem last_word {l r : List Nat} (_ : r.length = r.length) : atI (wordsV (pass l r)) (-1) = some (V.str (S (ends l r))) := by
  refine at_last ?_
  rw [List.length_map, pass_len, Nat.add_sub_cancel, List.getElem?_map, pass_last]
  rfl
end Sw
namespace Sw
open PySem PySem.Spec PyProof.Rows L2
theorem cutV_mid {xs : List V} {i j : Nat} (h : i ≤ j) (hj : j ≤ xs.length) : cutV xs (some (i : Int)) (some (j : Int)) = (xs.drop i).take (j - i) := by
  unfold cutV
  rw [HT.sIx_nat, HT.sIx_nat, Nat.min_eq_left hj, Nat.min_eq_left (Nat.le_trans h hj)]
theorem cutV_toN {xs : List V} {j : Nat} (hj : j ≤ xs.length) : cutV xs none (some (j : Int)) = xs.take j := by
  unfold cutV
  rw [HT.sIx_none, HT.sIx_nat, Nat.min_eq_left hj, List.drop_zero, Nat.sub_zero]
theorem rg_places {n : Nat} : rgV 0 (n : Int) = placesV (List.range n) := by
  unfold rgV
  rw [show ((n : Int) - 0).toNat = n by omega]
  refine List.map_congr_left fun i _ => ?_
  rw [Int.zero_add]
theorem pass_at {l r : List Nat} {i : Nat} (h : i ≤ r.length) : (pass l r)[i]? = some (ends l (r.take i)) := by
  induction r generalizing l i with
  | nil =>
    have e : i = 0 := by simp at h; exact h
    subst e
    rfl
  | cons p r ih =>
    cases i with
    | zero => rfl
    | succ i =>
      show (l :: pass (swapL l p) r)[i + 1]? = _
      rw [List.getElem?_cons_succ, ih (by simp at h; omega)]
      rfl
theorem prices_addrs {H : Hp} : ∀ {ts : List V} {ps : List (Nat × Int)}, Paired (PriceT H) ts ps → ∃ as : List Addr, ts = as.map V.ref ∧ Paired (fun a q => H a = some (.tup [.str (S q.1.1), .int q.2]) ∧ True) as (ps.map fun q => (([q.1], ()), q.2))
  | _, _, .nil => ⟨[], rfl, .nil⟩
  | _, _, .cons r t => by
    obtain ⟨a, rfl, h⟩ := r
    obtain ⟨as, rfl, hp⟩ := prices_addrs t
    exact ⟨a :: as, rfl, .cons ⟨h, trivial⟩ hp⟩
theorem prices_paired {K : PySem.W.Frag} {H : Hp} : ∀ {as : List Addr} {ps : List (Nat × Int)}, Paired (fun a (q : (List Nat × Unit) × Int) => H a = some (.tup [.str (S q.1.1), .int q.2]) ∧ True) as (ps.map fun q => (([q.1], ()), q.2)) →
    Paired (fun p (kv : Key × V) => SqT K H p [kV kv.1, kv.2]) as (pricesK ps)
  | [], [], _ => .nil
  | a :: as, q :: ps, h => by
    cases h with
    | cons h t => exact .cons (SqT.of h.1) (prices_paired t)
  | [], _ :: _, h => by cases h
  | _ :: _, [], h => by cases h
theorem places_ne_nil {K : PySem.W.Frag} {H : Hp} {a b : Addr} {ns : List Nat} {Q : VK} (ha : SqL K H a (placesV ns)) (hb : SqL K H b []) (q : Q (.bl (!ns.isEmpty)) H) : rNeD K (.ref a) (.ref b) H Q := by
  refine ⟨_, _, .lst ha (places_dp ns), .lst hb .nil, places_shaped ns, places_shaped [], ?_⟩
  have e : PyData.eqv (.list (placesD ns)) (.list []) = ns.isEmpty := by
    cases ns with
    | nil => exact places_eqv []
    | cons n r => rfl
  rw [e]
  exact q
end Sw
namespace Sw
open PySem PySem.Spec PyProof.Rows L2
/-- one of two -/
theorem pick2 {a b r : Int} (h0 : 0 ≤ r) (h1 : r < 2) : ∃ n : Int, atI [V.int a, V.int b] r = some (V.int n) ∧ (n = a ∨ n = b) ∧ True := by
  have e : r = 0 ∨ r = 1 := by omega
  rcases e with rfl | rfl
  · exact ⟨a, rfl, .inl rfl, trivial⟩
  · exact ⟨b, rfl, .inr rfl, trivial⟩
end Sw
namespace Sw
open PySem PySem.Spec PyProof.Rows L2
theorem Same.updF {H H1 : Hp} {p : Addr} {o : HO} (s : Same H H1) (hp : H p = none) : Same H (L2.upd H1 p o) := fun c u h => by
  rw [upd_ne (ne_of_none h hp)]
  exact s c u h
/-! ### prices compared -/
def priceD (q : Nat × Int) : PyData := .tuple [.str (S [q.1]), .int q.2]
theorem prices_dp {K : PySem.W.Frag} {H : Hp} : ∀ {ts : List V} {ps : List (Nat × Int)}, Paired (PriceT H) ts ps → DpAll K H ts (ps.map priceD)
  | _, _, .nil => .nil
  | _, _, .cons r t => by
    obtain ⟨a, rfl, h⟩ := r
    exact .cons (.tup (SqT.of h) (.cons (.str _) (.cons (.int _) .nil))) (prices_dp t)
theorem prices_lay : ∀ {ps : List (Nat × Int)}, (∀ q ∈ ps, q.1 ≤ 122) → PyData.canLayAll0 (ps.map priceD) = true
  | [], _ => rfl
  | q :: r, h => by
    have h1 := h q List.mem_cons_self
    have h2 := prices_lay (ps := r) fun y hy => h y (List.mem_cons_of_mem _ hy)
    have e : PyData.strOk (S [q.1]) = true := by
      show ((#[q.1] : Array Nat).all fun c => decide (c < 0x110000)) = true
      simp
      omega
    show ((PyData.strOk (S [q.1]) && (true && true)) && PyData.canLayAll0 (r.map priceD)) = true
    rw [e, h2]
    rfl
theorem prices_depth : ∀ ps : List (Nat × Int), PyData.depthAll (ps.map priceD) ≤ 1
  | [] => Nat.zero_le _
  | q :: r => Nat.max_le.mpr ⟨Nat.le_refl _, prices_depth r⟩
theorem prices_shaped {ps : List (Nat × Int)} (h : ∀ q ∈ ps, q.1 ≤ 122) : SeqAt.shaped (.list (ps.map priceD)) = true := by
  unfold SeqAt.shaped
  have e : (PyData.list (ps.map priceD)).depth ≤ 64 := by
    show PyData.depthAll (ps.map priceD) + 1 ≤ 64
    have := prices_depth ps
    omega
  have e2 : (PyData.list (ps.map priceD)).canLay0 = true := prices_lay h
  rw [e2, decide_eq_true e]
  rfl
theorem prices_same {K : PySem.W.Frag} {H : Hp} {a b : Addr} {ps : List (Nat × Int)} {Q : VK} (ok : PricesOk ps) (ha : PricesAt H a ps) (hb : PricesAt H b ps) (q : Q (.bl false) H) : rNeD K (.ref a) (.ref b) H Q := by
  obtain ⟨ts, h1, h2⟩ := ha
  obtain ⟨us, h3, h4⟩ := hb
  have hle : ∀ q ∈ ps, q.1 ≤ 122 := fun q hq => (ok.1 q hq).1.2
  refine ⟨_, _, .lst (SqL.of h1) (prices_dp h2), .lst (SqL.of h3) (prices_dp h4), prices_shaped hle, prices_shaped hle, ?_⟩
  rw [PySem.SeqAt.eqv_refl _ (show (PyData.list (ps.map priceD)).canLay0 = true from prices_lay hle)]
  exact q
theorem PriceT.upd {H : Hp} {D : Addr} {xs ys : List V} (hD : H D = some (.lst xs)) {t : V} {q : Nat × Int} (h : PriceT H t q) : PriceT (L2.upd H D (.lst ys)) t q := by
  obtain ⟨a, e, h⟩ := h
  exact ⟨a, e, by rw [upd_ne (ne_of h hD (by intro z; cases z))]; exact h⟩
theorem PricesAt.but {g a : Addr} {H H' : Hp} {n : Nat} {ps : List (Nat × Int)} (G : GenAt H g n) (ne : a ≠ g) (b : But g H H') (h : PricesAt H a ps) : PricesAt H' a ps := by
  obtain ⟨ts, h1, h2⟩ := h
  obtain ⟨x, y, z, g0, _⟩ := G
  refine ⟨ts, b _ _ ne h1, Paired.mapP h2 fun t q z => ?_⟩
  obtain ⟨c, e, h⟩ := z
  exact ⟨c, e, b _ _ (ne_of h g0 (by intro z; cases z)) h⟩
/-- what the last part of the law about moved letters leans on -/
structure Facts4 (H0 : Hp) (g D m fe v : Addr) (ps : List (Nat × Int)) (r due : List Nat) (c : Nat) (H : Hp) : Prop where
  pr : PricesAt H D ps
  fe : PricesAt H fe ps
  du : H m = some (.lst (placesV due))
  ro : H v = some (.lst (placesV r))
  G : GenAt H g c
  B : But g H0 H
theorem Facts4.same {H0 H H' : Hp} {g D m fe v : Addr} {ps : List (Nat × Int)} {r due : List Nat} {c : Nat} (F : Facts4 H0 g D m fe v ps r due c H) (s : Same H H') : Facts4 H0 g D m fe v ps r due c H' :=
  ⟨F.pr.same s, F.fe.same s, s _ _ F.du, s _ _ F.ro, F.G.same s, F.B.trans (.same s)⟩
theorem due_get {n : Nat} {r : List Nat} (h : ∀ p ∈ r, p < n) : (ends (List.range n) (backL n r)).map (fun i => (ends (List.range n) r).getD i 0) = List.range n := by
  have hl : ∀ p ∈ r, p < (List.range n).length := fun p hp => by rw [List.length_range]; exact h p hp
  have e0 : (ends (List.range n) r).length = n := by rw [ends_len hl, List.length_range]
  have e1 : (List.range n).map (fun i => (ends (List.range n) r).getD i 0) = ends (List.range n) r := by
    have := range_get (ends (List.range n) r)
    rw [e0] at this
    exact this
  rw [← ends_map, e1]
  have := back_ends hl
  rw [List.length_range] at this
  exact this
end Sw
namespace Sw
open PySem PySem.Spec PyProof.Rows L2
/-- a test that two lists of places are alike, which they are -/
theorem eq_places {K : PySem.W.Frag} {H : Hp} {a b : Addr} {ns : List Nat} {Q : VK} (ha : SqL K H a (placesV ns)) (hb : SqL K H b (placesV ns)) (q : Q (.bl true) H) : rEqD K (.ref a) (.ref b) H Q := by
  refine ⟨_, _, .lst ha (places_dp ns), .lst hb (places_dp ns), places_shaped ns, places_shaped ns, ?_⟩
  rw [places_eqv]
  exact q
end Sw
namespace K04
open PySem PySem.Spec PyProof.Rows L2 Sw
def top (i : Nat) : Stmt := PySem.Challenge.pw_sideswaps_k04_whole_moved_letters_and_pr.main.body.getD i (.Pass ⟨0, 0, 0, 0⟩)
abbrev s_is_word : Stmt := top 9
abbrev N_is_word : List Str := ["value", "sign"]
abbrev P_is_word : List Str := ["value"]
theorem sc_is_word : FnScope N_is_word P_is_word (defScope s_is_word) := ⟨rfl, rfl, rfl, by decide +kernel, rfl, by decide +kernel, by decide +kernel⟩
abbrev s_is_count : Stmt := top 13
abbrev N_is_count : List Str := ["value"]
abbrev P_is_count : List Str := ["value"]
theorem sc_is_count : FnScope N_is_count P_is_count (defScope s_is_count) := ⟨rfl, rfl, rfl, by decide +kernel, rfl, by decide +kernel, by decide +kernel⟩
abbrev s__ascends : Stmt := top 15
abbrev N__ascends : List Str := ["signs", "first", "second"]
abbrev P__ascends : List Str := ["signs"]
theorem sc__ascends : FnScope N__ascends P__ascends (defScope s__ascends) := ⟨rfl, rfl, rfl, by decide +kernel, rfl, by decide +kernel, by decide +kernel⟩
abbrev s_letters_priced : Stmt := top 19
abbrev N_letters_priced : List Str := ["prices", "item"]
abbrev P_letters_priced : List Str := ["prices"]
theorem sc_letters_priced : FnScope N_letters_priced P_letters_priced (defScope s_letters_priced) := ⟨rfl, rfl, rfl, by decide +kernel, rfl, by decide +kernel, by decide +kernel⟩
abbrev s_sides_changed : Stmt := top 20
abbrev N_sides_changed : List Str := ["word", "place"]
abbrev P_sides_changed : List Str := ["word", "place"]
theorem sc_sides_changed : FnScope N_sides_changed P_sides_changed (defScope s_sides_changed) := ⟨rfl, rfl, rfl, by decide +kernel, rfl, by decide +kernel, by decide +kernel⟩
abbrev s__law_hash : Stmt := top 29
abbrev N__law_hash : List Str := ["_law_seed", "_law_index", "_law_mixed"]
abbrev P__law_hash : List Str := ["_law_seed", "_law_index"]
theorem sc__law_hash : FnScope N__law_hash P__law_hash (defScope s__law_hash) := ⟨rfl, rfl, rfl, by decide +kernel, rfl, by decide +kernel, by decide +kernel⟩
abbrev s__law_cell : Stmt := top 31
abbrev N__law_cell : List Str := ["_law_script", "_law_index"]
abbrev P__law_cell : List Str := ["_law_script", "_law_index"]
theorem sc__law_cell : FnScope N__law_cell P__law_cell (defScope s__law_cell) := ⟨rfl, rfl, rfl, by decide +kernel, rfl, by decide +kernel, by decide +kernel⟩
abbrev s__law_swapped : Stmt := top 36
abbrev N__law_swapped : List Str := ["_law_word_here", "_law_place"]
abbrev P__law_swapped : List Str := ["_law_word_here", "_law_place"]
theorem sc__law_swapped : FnScope N__law_swapped P__law_swapped (defScope s__law_swapped) := ⟨rfl, rfl, rfl, by decide +kernel, rfl, by decide +kernel, by decide +kernel⟩
abbrev s__law_moved : Stmt := top 38
abbrev N__law_moved : List Str := ["_law_size", "_law_road_here", "_law_found", "_law_place"]
abbrev P__law_moved : List Str := ["_law_size", "_law_road_here"]
theorem sc__law_moved : FnScope N__law_moved P__law_moved (defScope s__law_moved) := ⟨rfl, rfl, rfl, by decide +kernel, rfl, by decide +kernel, by decide +kernel⟩
abbrev s_is_joints : Stmt := top 10
abbrev N_is_joints : List Str := ["value"]
abbrev P_is_joints : List Str := ["value"]
theorem sc_is_joints : FnScope N_is_joints P_is_joints (defScope s_is_joints) := ⟨rfl, rfl, rfl, by decide +kernel, rfl, by decide +kernel, by decide +kernel⟩
abbrev s_is_letter : Stmt := top 12
abbrev N_is_letter : List Str := ["value"]
abbrev P_is_letter : List Str := ["value"]
theorem sc_is_letter : FnScope N_is_letter P_is_letter (defScope s_is_letter) := ⟨rfl, rfl, rfl, by decide +kernel, rfl, by decide +kernel, by decide +kernel⟩
abbrev s_check_word : Stmt := top 16
abbrev N_check_word : List Str := ["value"]
abbrev P_check_word : List Str := ["value"]
theorem sc_check_word : FnScope N_check_word P_check_word (defScope s_check_word) := ⟨rfl, rfl, rfl, by decide +kernel, rfl, by decide +kernel, by decide +kernel⟩
abbrev s__is_open : Stmt := top 21
abbrev N__is_open : List Str := ["word", "joints", "place"]
abbrev P__is_open : List Str := ["word", "joints", "place"]
theorem sc__is_open : FnScope N__is_open P__is_open (defScope s__is_open) := ⟨rfl, rfl, rfl, by decide +kernel, rfl, by decide +kernel, by decide +kernel⟩
abbrev s_back_road : Stmt := top 25
abbrev N_back_road : List Str := ["size", "road", "place"]
abbrev P_back_road : List Str := ["size", "road"]
theorem sc_back_road : FnScope N_back_road P_back_road (defScope s_back_road) := ⟨rfl, rfl, rfl, by decide +kernel, rfl, by decide +kernel, by decide +kernel⟩
abbrev s__law_random : Stmt := top 30
abbrev N__law_random : List Str := ["_law_generator_here", "_law_bound", "_law_drawn", "_law_turn"]
abbrev P__law_random : List Str := ["_law_generator_here", "_law_bound"]
theorem sc__law_random : FnScope N__law_random P__law_random (defScope s__law_random) := ⟨rfl, rfl, rfl, by decide +kernel, rfl, by decide +kernel, by decide +kernel⟩
abbrev s__law_generator : Stmt := top 32
abbrev N__law_generator : List Str := ["_law_script", "_law_index", "_law_seed"]
abbrev P__law_generator : List Str := ["_law_script", "_law_index"]
theorem sc__law_generator : FnScope N__law_generator P__law_generator (defScope s__law_generator) := ⟨rfl, rfl, rfl, by decide +kernel, rfl, by decide +kernel, by decide +kernel⟩
abbrev s__law_cost : Stmt := top 39
abbrev N__law_cost : List Str := ["_law_word_here", "_law_prices", "_law_road_here", "_law_found", "_law_there", "_law_place", "_law_letter", "_law_price"]
abbrev P__law_cost : List Str := ["_law_word_here", "_law_prices", "_law_road_here"]
theorem sc__law_cost : FnScope N__law_cost P__law_cost (defScope s__law_cost) := ⟨rfl, rfl, rfl, by decide +kernel, rfl, by decide +kernel, by decide +kernel⟩
abbrev s__is_letter_price : Stmt := top 14
abbrev N__is_letter_price : List Str := ["value"]
abbrev P__is_letter_price : List Str := ["value"]
theorem sc__is_letter_price : FnScope N__is_letter_price P__is_letter_price (defScope s__is_letter_price) := ⟨rfl, rfl, rfl, by decide +kernel, rfl, by decide +kernel, by decide +kernel⟩
abbrev s_check_joints : Stmt := top 17
abbrev N_check_joints : List Str := ["value"]
abbrev P_check_joints : List Str := ["value"]
theorem sc_check_joints : FnScope N_check_joints P_check_joints (defScope s_check_joints) := ⟨rfl, rfl, rfl, by decide +kernel, rfl, by decide +kernel, by decide +kernel⟩
abbrev s__walked : Stmt := top 22
abbrev N__walked : List Str := ["word", "joints", "value", "made", "place"]
abbrev P__walked : List Str := ["word", "joints", "value"]
theorem sc__walked : FnScope N__walked P__walked (defScope s__walked) := ⟨rfl, rfl, rfl, by decide +kernel, rfl, by decide +kernel, by decide +kernel⟩
abbrev s__law_word : Stmt := top 33
abbrev N__law_word : List Str := ["_law_generator_here", "_law_letters_here", "_law_size", "_law_turn"]
abbrev P__law_word : List Str := ["_law_generator_here", "_law_letters_here", "_law_size"]
theorem sc__law_word : FnScope N__law_word P__law_word (defScope s__law_word) := ⟨rfl, rfl, rfl, by decide +kernel, rfl, by decide +kernel, by decide +kernel⟩
abbrev s__law_letters : Stmt := top 34
abbrev N__law_letters : List Str := ["_law_generator_here", "_law_least", "_law_most", "_law_many", "_law_found", "_law_start", "_law_turn"]
abbrev P__law_letters : List Str := ["_law_generator_here", "_law_least", "_law_most"]
theorem sc__law_letters : FnScope N__law_letters P__law_letters (defScope s__law_letters) := ⟨rfl, rfl, rfl, by decide +kernel, rfl, by decide +kernel, by decide +kernel⟩
abbrev s__law_joints : Stmt := top 35
abbrev N__law_joints : List Str := ["_law_generator_here", "_law_letters_here", "_law_letter"]
abbrev P__law_joints : List Str := ["_law_generator_here", "_law_letters_here"]
theorem sc__law_joints : FnScope N__law_joints P__law_joints (defScope s__law_joints) := ⟨rfl, rfl, rfl, by decide +kernel, rfl, by decide +kernel, by decide +kernel⟩
abbrev s__law_road : Stmt := top 37
abbrev N__law_road : List Str := ["_law_generator_here", "_law_word_here", "_law_joints_here", "_law_most", "_law_road_here", "_law_there", "_law_turn", "_law_open_ones", "_law_place"]
abbrev P__law_road : List Str := ["_law_generator_here", "_law_word_here", "_law_joints_here", "_law_most"]
theorem sc__law_road : FnScope N__law_road P__law_road (defScope s__law_road) := ⟨rfl, rfl, rfl, by decide +kernel, rfl, by decide +kernel, by decide +kernel⟩
abbrev s_is_prices : Stmt := top 11
abbrev N_is_prices : List Str := ["value", "item"]
abbrev P_is_prices : List Str := ["value"]
theorem sc_is_prices : FnScope N_is_prices P_is_prices (defScope s_is_prices) := ⟨rfl, rfl, rfl, by decide +kernel, rfl, by decide +kernel, by decide +kernel⟩
abbrev s_passed : Stmt := top 23
abbrev N_passed : List Str := ["word", "joints", "road", "made"]
abbrev P_passed : List Str := ["word", "joints", "road"]
theorem sc_passed : FnScope N_passed P_passed (defScope s_passed) := ⟨rfl, rfl, rfl, by decide +kernel, rfl, by decide +kernel, by decide +kernel⟩
abbrev s_check_prices : Stmt := top 18
abbrev N_check_prices : List Str := ["value"]
abbrev P_check_prices : List Str := ["value"]
theorem sc_check_prices : FnScope N_check_prices P_check_prices (defScope s_check_prices) := ⟨rfl, rfl, rfl, by decide +kernel, rfl, by decide +kernel, by decide +kernel⟩
abbrev s_done : Stmt := top 24
abbrev N_done : List Str := ["word", "joints", "road"]
abbrev P_done : List Str := ["word", "joints", "road"]
theorem sc_done : FnScope N_done P_done (defScope s_done) := ⟨rfl, rfl, rfl, by decide +kernel, rfl, by decide +kernel, by decide +kernel⟩
abbrev s_moved : Stmt := top 27
abbrev N_moved : List Str := ["word", "joints", "road", "spots", "place"]
abbrev P_moved : List Str := ["word", "joints", "road"]
theorem sc_moved : FnScope N_moved P_moved (defScope s_moved) := ⟨rfl, rfl, rfl, by decide +kernel, rfl, by decide +kernel, by decide +kernel⟩
abbrev s_price_of : Stmt := top 26
abbrev N_price_of : List Str := ["word", "prices", "road", "made", "costs", "each", "place"]
abbrev P_price_of : List Str := ["word", "prices", "road"]
theorem sc_price_of : FnScope N_price_of P_price_of (defScope s_price_of) := ⟨rfl, rfl, rfl, by decide +kernel, rfl, by decide +kernel, by decide +kernel⟩
abbrev s__law_right : Stmt := top 40
abbrev N__law_right : List Str := ["_law_generator_here", "_law_letters_here", "_law_joints_here", "_law_most", "_law_prices", "_law_size", "_law_word_here", "_law_road_here", "_law_last", "_law_due", "_law_fees", "_law_told", "_law_cost_here", "_law_back", "_law_more", "_law_letter", "_law_place"]
abbrev P__law_right : List Str := ["_law_generator_here"]
theorem sc__law_right : FnScope N__law_right P__law_right (defScope s__law_right) := ⟨rfl, rfl, rfl, by decide +kernel, rfl, by decide +kernel, by decide +kernel⟩
abbrev s_law : Stmt := top 41
abbrev N_law : List Str := ["_law_script", "_law_index"]
abbrev P_law : List Str := ["_law_script"]
theorem sc_law : FnScope N_law P_law (defScope s_law) := ⟨rfl, rfl, rfl, by decide +kernel, rfl, by decide +kernel, by decide +kernel⟩
structure Txt (K : PySem.W.Frag) (mg : Str → Option Value) where
  f_is_word : Addr
  fd_is_word : FuncData
  F_is_word : Fun K "is_word" "is_word" s_is_word f_is_word fd_is_word
  m_is_word : mg "is_word" = some (.ref f_is_word)
  b_is_word : Binds K fd_is_word P_is_word []
  f_is_count : Addr
  fd_is_count : FuncData
  F_is_count : Fun K "is_count" "is_count" s_is_count f_is_count fd_is_count
  m_is_count : mg "is_count" = some (.ref f_is_count)
  b_is_count : Binds K fd_is_count P_is_count []
  f__ascends : Addr
  fd__ascends : FuncData
  F__ascends : Fun K "_ascends" "_ascends" s__ascends f__ascends fd__ascends
  m__ascends : mg "_ascends" = some (.ref f__ascends)
  b__ascends : Binds K fd__ascends P__ascends []
  f_letters_priced : Addr
  fd_letters_priced : FuncData
  F_letters_priced : Fun K "letters_priced" "letters_priced" s_letters_priced f_letters_priced fd_letters_priced
  m_letters_priced : mg "letters_priced" = some (.ref f_letters_priced)
  b_letters_priced : Binds K fd_letters_priced P_letters_priced []
  f_sides_changed : Addr
  fd_sides_changed : FuncData
  F_sides_changed : Fun K "sides_changed" "sides_changed" s_sides_changed f_sides_changed fd_sides_changed
  m_sides_changed : mg "sides_changed" = some (.ref f_sides_changed)
  b_sides_changed : Binds K fd_sides_changed P_sides_changed []
  f__law_hash : Addr
  fd__law_hash : FuncData
  F__law_hash : Fun K "_law_hash" "_law_hash" s__law_hash f__law_hash fd__law_hash
  m__law_hash : mg "_law_hash" = some (.ref f__law_hash)
  b__law_hash : Binds K fd__law_hash P__law_hash []
  f__law_cell : Addr
  fd__law_cell : FuncData
  F__law_cell : Fun K "_law_cell" "_law_cell" s__law_cell f__law_cell fd__law_cell
  m__law_cell : mg "_law_cell" = some (.ref f__law_cell)
  b__law_cell : Binds K fd__law_cell P__law_cell []
  f__law_swapped : Addr
  fd__law_swapped : FuncData
  F__law_swapped : Fun K "_law_swapped" "_law_swapped" s__law_swapped f__law_swapped fd__law_swapped
  m__law_swapped : mg "_law_swapped" = some (.ref f__law_swapped)
  b__law_swapped : Binds K fd__law_swapped P__law_swapped []
  f__law_moved : Addr
  fd__law_moved : FuncData
  F__law_moved : Fun K "_law_moved" "_law_moved" s__law_moved f__law_moved fd__law_moved
  m__law_moved : mg "_law_moved" = some (.ref f__law_moved)
  b__law_moved : Binds K fd__law_moved P__law_moved []
  f_is_joints : Addr
  fd_is_joints : FuncData
  F_is_joints : Fun K "is_joints" "is_joints" s_is_joints f_is_joints fd_is_joints
  m_is_joints : mg "is_joints" = some (.ref f_is_joints)
  b_is_joints : Binds K fd_is_joints P_is_joints []
  f_is_letter : Addr
  fd_is_letter : FuncData
  F_is_letter : Fun K "is_letter" "is_letter" s_is_letter f_is_letter fd_is_letter
  m_is_letter : mg "is_letter" = some (.ref f_is_letter)
  b_is_letter : Binds K fd_is_letter P_is_letter []
  f_check_word : Addr
  fd_check_word : FuncData
  F_check_word : Fun K "check_word" "check_word" s_check_word f_check_word fd_check_word
  m_check_word : mg "check_word" = some (.ref f_check_word)
  b_check_word : Binds K fd_check_word P_check_word []
  f__is_open : Addr
  fd__is_open : FuncData
  F__is_open : Fun K "_is_open" "_is_open" s__is_open f__is_open fd__is_open
  m__is_open : mg "_is_open" = some (.ref f__is_open)
  b__is_open : Binds K fd__is_open P__is_open []
  f_back_road : Addr
  fd_back_road : FuncData
  F_back_road : Fun K "back_road" "back_road" s_back_road f_back_road fd_back_road
  m_back_road : mg "back_road" = some (.ref f_back_road)
  b_back_road : Binds K fd_back_road P_back_road []
  f__law_random : Addr
  fd__law_random : FuncData
  F__law_random : Fun K "_law_random" "_law_random" s__law_random f__law_random fd__law_random
  m__law_random : mg "_law_random" = some (.ref f__law_random)
  b__law_random : Binds K fd__law_random P__law_random []
  f__law_generator : Addr
  fd__law_generator : FuncData
  F__law_generator : Fun K "_law_generator" "_law_generator" s__law_generator f__law_generator fd__law_generator
  m__law_generator : mg "_law_generator" = some (.ref f__law_generator)
  b__law_generator : Binds K fd__law_generator P__law_generator []
  f__law_cost : Addr
  fd__law_cost : FuncData
  F__law_cost : Fun K "_law_cost" "_law_cost" s__law_cost f__law_cost fd__law_cost
  m__law_cost : mg "_law_cost" = some (.ref f__law_cost)
  b__law_cost : Binds K fd__law_cost P__law_cost []
  f__is_letter_price : Addr
  fd__is_letter_price : FuncData
  F__is_letter_price : Fun K "_is_letter_price" "_is_letter_price" s__is_letter_price f__is_letter_price fd__is_letter_price
  m__is_letter_price : mg "_is_letter_price" = some (.ref f__is_letter_price)
  b__is_letter_price : Binds K fd__is_letter_price P__is_letter_price []
  f_check_joints : Addr
  fd_check_joints : FuncData
  F_check_joints : Fun K "check_joints" "check_joints" s_check_joints f_check_joints fd_check_joints
  m_check_joints : mg "check_joints" = some (.ref f_check_joints)
  b_check_joints : Binds K fd_check_joints P_check_joints []
  f__walked : Addr
  fd__walked : FuncData
  F__walked : Fun K "_walked" "_walked" s__walked f__walked fd__walked
  m__walked : mg "_walked" = some (.ref f__walked)
  b__walked : Binds K fd__walked P__walked []
  f__law_word : Addr
  fd__law_word : FuncData
  F__law_word : Fun K "_law_word" "_law_word" s__law_word f__law_word fd__law_word
  m__law_word : mg "_law_word" = some (.ref f__law_word)
  b__law_word : Binds K fd__law_word P__law_word []
  f__law_letters : Addr
  fd__law_letters : FuncData
  F__law_letters : Fun K "_law_letters" "_law_letters" s__law_letters f__law_letters fd__law_letters
  m__law_letters : mg "_law_letters" = some (.ref f__law_letters)
  b__law_letters : Binds K fd__law_letters P__law_letters []
  f__law_joints : Addr
  fd__law_joints : FuncData
  F__law_joints : Fun K "_law_joints" "_law_joints" s__law_joints f__law_joints fd__law_joints
  m__law_joints : mg "_law_joints" = some (.ref f__law_joints)
  b__law_joints : Binds K fd__law_joints P__law_joints []
  f__law_road : Addr
  fd__law_road : FuncData
  F__law_road : Fun K "_law_road" "_law_road" s__law_road f__law_road fd__law_road
  m__law_road : mg "_law_road" = some (.ref f__law_road)
  b__law_road : Binds K fd__law_road P__law_road []
  f_is_prices : Addr
  fd_is_prices : FuncData
  F_is_prices : Fun K "is_prices" "is_prices" s_is_prices f_is_prices fd_is_prices
  m_is_prices : mg "is_prices" = some (.ref f_is_prices)
  b_is_prices : Binds K fd_is_prices P_is_prices []
  f_passed : Addr
  fd_passed : FuncData
  F_passed : Fun K "passed" "passed" s_passed f_passed fd_passed
  m_passed : mg "passed" = some (.ref f_passed)
  b_passed : Binds K fd_passed P_passed []
  f_check_prices : Addr
  fd_check_prices : FuncData
  F_check_prices : Fun K "check_prices" "check_prices" s_check_prices f_check_prices fd_check_prices
  m_check_prices : mg "check_prices" = some (.ref f_check_prices)
  b_check_prices : Binds K fd_check_prices P_check_prices []
  f_done : Addr
  fd_done : FuncData
  F_done : Fun K "done" "done" s_done f_done fd_done
  m_done : mg "done" = some (.ref f_done)
  b_done : Binds K fd_done P_done []
  f_moved : Addr
  fd_moved : FuncData
  F_moved : Fun K "moved" "moved" s_moved f_moved fd_moved
  m_moved : mg "moved" = some (.ref f_moved)
  b_moved : Binds K fd_moved P_moved []
  f_price_of : Addr
  fd_price_of : FuncData
  F_price_of : Fun K "price_of" "price_of" s_price_of f_price_of fd_price_of
  m_price_of : mg "price_of" = some (.ref f_price_of)
  b_price_of : Binds K fd_price_of P_price_of []
  f__law_right : Addr
  fd__law_right : FuncData
  F__law_right : Fun K "_law_right" "_law_right" s__law_right f__law_right fd__law_right
  m__law_right : mg "_law_right" = some (.ref f__law_right)
  b__law_right : Binds K fd__law_right P__law_right []
  f_law : Addr
  fd_law : FuncData
  F_law : Fun K "law" "law" s_law f_law fd_law
  m_law : mg "law" = some (.ref f_law)
  b_law : Binds K fd_law P_law []
  g_LONGEST : ∃ t, mg "LONGEST" = some (.int 300 t)
  z_all : mg "all" = none
  z_bool : mg "bool" = none
  z_dict : mg "dict" = none
  z_int : mg "int" = none
  z_isinstance : mg "isinstance" = none
  z_len : mg "len" = none
  z_list : mg "list" = none
  z_max : mg "max" = none
  z_range : mg "range" = none
  z_reversed : mg "reversed" = none
  z_str : mg "str" = none
  z_sum : mg "sum" = none
  z_tuple : mg "tuple" = none
  z_zip : mg "zip" = none
def gk_moved__0_road_joints_word {α : Type} : List α → List α → List α := fun us ws => match us, ws with | [], [w0, w1, w2] => [w2, w1, w0] | _, _ => []
theorem gk_rel_moved__0_road_joints_word {vs zs : List V} {us ws : List Value} (r1 : Vals vs us) (r2 : Vals zs ws) : Vals (gk_moved__0_road_joints_word vs zs) (gk_moved__0_road_joints_word us ws) := by
  cases r1 with
  | nil =>
    cases r2 with
    | nil => exact .nil
    | cons w0 r2 =>
      cases r2 with
      | nil => exact .nil
      | cons w1 r2 =>
        cases r2 with
        | nil => exact .nil
        | cons w2 r2 =>
          cases r2 with
          | nil =>
            exact (.cons w2 (.cons w1 (.cons w0 .nil)))
          | cons _ _ => exact .nil
  | cons _ _ => exact .nil
theorem kb_moved__0_road_joints_word {K : PySem.W.Frag} {mg : Str → Option Value} (T : Txt K mg) : KBn K T.fd_moved P_moved 0 ["road", "joints", "word"] gk_moved__0_road_joints_word gk_moved__0_road_joints_word := by
  obtain ⟨oc, od, kV, doc, pm, an, cdv, ct, osl, e, lk, hcd⟩ := T.F_moved.ex
  refine ⟨fun s us ws X l1 l2 => ?_, fun r1 r2 => gk_rel_moved__0_road_joints_word r1 r2⟩
  rw [e]
  exact match us, ws, l1, l2 with | [], [_, _, _], _, _ => .of_eq rfl
def gk_price_of__0_road_prices_word {α : Type} : List α → List α → List α := fun us ws => match us, ws with | [], [w0, w1, w2] => [w2, w1, w0] | _, _ => []
theorem gk_rel_price_of__0_road_prices_word {vs zs : List V} {us ws : List Value} (r1 : Vals vs us) (r2 : Vals zs ws) : Vals (gk_price_of__0_road_prices_word vs zs) (gk_price_of__0_road_prices_word us ws) := by
  cases r1 with
  | nil =>
    cases r2 with
    | nil => exact .nil
    | cons w0 r2 =>
      cases r2 with
      | nil => exact .nil
      | cons w1 r2 =>
        cases r2 with
        | nil => exact .nil
        | cons w2 r2 =>
          cases r2 with
          | nil =>
            exact (.cons w2 (.cons w1 (.cons w0 .nil)))
          | cons _ _ => exact .nil
  | cons _ _ => exact .nil
theorem kb_price_of__0_road_prices_word {K : PySem.W.Frag} {mg : Str → Option Value} (T : Txt K mg) : KBn K T.fd_price_of P_price_of 0 ["road", "prices", "word"] gk_price_of__0_road_prices_word gk_price_of__0_road_prices_word := by
  obtain ⟨oc, od, kV, doc, pm, an, cdv, ct, osl, e, lk, hcd⟩ := T.F_price_of.ex
  refine ⟨fun s us ws X l1 l2 => ?_, fun r1 r2 => gk_rel_price_of__0_road_prices_word r1 r2⟩
  rw [e]
  exact match us, ws, l1, l2 with | [], [_, _, _], _, _ => .of_eq rfl
section
variable {P : Program} {w : World} {K : PySem.W.Frag} {mg : Str → Option Value} {base : Heap}
/-! is_word -/
def sp_is_word : Sp := fun vs H Q _ => ∃ l : List Nat, vs = [.str (S l)] ∧ l.length ≤ 50000 ∧ ∀ H', Same H H' → Q (.bl (wordB l)) H'
theorem ok_is_word (T : Txt K mg) : FnOk P w K mg base CX0 1 T.f_is_word T.fd_is_word P_is_word (sp_is_word) := by
  have nd : N_is_word.Nodup := sc_is_word.nd
  refine T.F_is_word.ok sc_is_word (fun vs H Q E h => ?_) (fun cdv A outer s H vs Q E hr h => ?_)
  · obtain ⟨l, rfl, _⟩ := h
    rfl
  · obtain ⟨l, rfl, hl, k⟩ := h
    refine ⟨_, (pss_one (ps_ret (pe_and (pe_callB call_isi (by rfl) T.z_isinstance (by decide +kernel) (pa_cons (pv 0) (pa_cons (pe_bltn (v := .ty "str") (by rfl) T.z_str (by decide +kernel) rfl) pa_nil))) (pe_one (pe_callB (cr_all rfl) (by rfl) T.z_all (by decide +kernel) (pa_cons (pe_lc (own := [("sign", 1)]) (hc := rfl) (hN := nd) (pi_str (pv 0)) (blkOk_by (N := N_is_word) (sc := defScope s_is_word) (by decide +kernel)) (fun _ _ _ _ _ => by exact (pg_name (i := 1) nd rfl (Or.inl rfl))) (fun _ _ _ _ _ => by exact pts_nil) (fun _ _ _ _ _ => by exact (pe_chain op_le_str op_le_str pe_str (pv 1) pe_str))) pa_nil)))))), ?_⟩
    refine ⟨_, rfl, _, _, _, _, _, rfl, ClsV.ty "str", .base (.str _), kit_ty (by decide +kernel), true, rfl, iteT ?_⟩
    refine ⟨_, rfl, _, rfl, fun D hD => ?_⟩
    refine lc_it walk_str (fun i H' => Same H H' ∧ H' D = some (.lst (((l.take i).map signB).map V.bl))) ⟨Same.upd hD, by rw [upd_same]; rfl⟩ (fun _ _ _ _ => trivial) ?_ ?_
    · rintro i x H1 H2 hi ⟨s1, d1⟩ ⟨rfl, c, hc, rfl⟩
      rw [at_S] at hc
      refine ⟨rfl, _, rfl, _, _, rfl, rfl, _, rfl, ?_⟩
      have step : ∀ v, v = V.bl (signB c) → ∃ acc, H2 D = some (.lst acc) ∧ acc.length < sizeLine ∧ (Same H (upd H2 D (.lst (acc ++ [v]))) ∧ (upd H2 D (.lst (acc ++ [v]))) D = some (.lst (((l.take (i + 1)).map signB).map V.bl))) := by
        rintro v rfl
        refine ⟨_, d1, ?_, fun b o e => ?_, ?_⟩
        · rw [List.length_map, List.length_map, List.length_take]; exact small_line (by omega)
        · rw [upd_ne (ne_of_none e hD)]; exact s1 b o e
        · rw [upd_same, take_snoc hc]; simp
      have sc := sign_chain c
      refine ite2 (fun z => ?_) (fun z => ?_)
      · rw [if_pos z] at sc
        exact ⟨_, _, rfl, rfl, step _ (by rw [sc])⟩
      · rw [if_neg z] at sc
        exact step _ (by rw [sc])
    · rintro H1 ⟨s1, d1⟩
      rw [size_S, List.take_length] at d1
      refine ⟨D, l.map signB, rfl, SqL.of d1, ?_⟩
      have e : (l.map signB).all id = wordB l := by unfold wordB; rw [List.all_map]; rfl
      rw [e]
      exact k _ s1
/-! is_count -/
def sp_is_count : Sp := fun vs H Q _ => ∃ i : Int, vs = [.int i] ∧ Q (.bl (decide (0 ≤ i))) H
theorem ok_is_count (T : Txt K mg) : FnOk P w K mg base CX0 1 T.f_is_count T.fd_is_count P_is_count (sp_is_count) := by
  have nd : N_is_count.Nodup := sc_is_count.nd
  refine T.F_is_count.ok sc_is_count (fun vs H Q E h => ?_) (fun cdv A outer s H vs Q E hr h => ?_)
  · obtain ⟨l, rfl, _⟩ := h
    rfl
  · obtain ⟨i, rfl, k⟩ := h
    refine ⟨_, (pss_one (ps_ret (pe_and (pe_callB call_isi (by rfl) T.z_isinstance (by decide +kernel) (pa_cons (pv 0) (pa_cons (pe_bltn (v := .ty "int") (by rfl) T.z_int (by decide +kernel) rfl) pa_nil))) (pe_and (pe_not (pe_callB call_isi (by rfl) T.z_isinstance (by decide +kernel) (pa_cons (pv 0) (pa_cons (pe_bltn (v := .ty "bool") (by rfl) T.z_bool (by decide +kernel) rfl) pa_nil)))) (pe_one (pe_cmpR op_ge (pv 0) pe_int (nomark _))))))), ?_⟩
    refine ⟨_, rfl, _, _, _, _, _, rfl, ClsV.ty "int", .base (.int _), kit_ty (by decide +kernel), true, rfl, iteT ?_⟩
    refine ⟨_, rfl, _, _, _, _, _, rfl, ClsV.ty "bool", .base (.int _), kit_ty (by decide +kernel), false, rfl, true, rfl, iteT ?_⟩
    exact ⟨_, rfl, _, _, rfl, rfl, k⟩
/-! _ascends -/
def sp__ascends : Sp := fun vs H Q _ => ∃ l : List Nat, vs = [.str (S l)] ∧ l.length ≤ 50000 ∧ ∀ H', Same H H' → Q (.bl (ascB l)) H'
theorem ok__ascends (T : Txt K mg) : FnOk P w K mg base CX0 1 T.f__ascends T.fd__ascends P__ascends (sp__ascends) := by
  have nd : N__ascends.Nodup := sc__ascends.nd
  refine T.F__ascends.ok sc__ascends (fun vs H Q E h => ?_) (fun cdv A outer s H vs Q E hr h => ?_)
  · obtain ⟨l, rfl, _⟩ := h
    rfl
  · obtain ⟨l, rfl, hl, k⟩ := h
    refine ⟨_, (pss_one (ps_ret (pe_callB (cr_all rfl) (by rfl) T.z_all (by decide +kernel) (pa_cons (pe_lc (own := [("first", 1), ("second", 2)]) (hc := rfl) (hN := nd) (pi_zipS (by rfl) T.z_zip (pa_cons (pv 0) (pa_cons (pe_slice sl_str (pv 0) (po_some pe_int) po_none) pa_nil))) (blkOk_by (N := N__ascends) (sc := defScope s__ascends) (by decide +kernel)) (fun _ _ _ _ _ => by exact (pg_tupK K (n := 2) rfl (pgs_cons (by exact (pg_name (i := 1) nd rfl (Or.inl rfl))) (pgs_cons (by exact (pg_name (i := 2) nd rfl (Or.inl rfl))) pgs_nil)))) (fun _ _ _ _ _ => by exact pts_nil) (fun _ _ _ _ _ => by exact (pe_cmpR op_lt_str (pv 1) (pv 2) (nomark _)))) pa_nil)))), ?_⟩
    refine ⟨_, rfl, _, rfl, _, rfl, _, rfl, by rw [len_S]; exact small_le (by omega), _, _, rfl, fun D hD => ?_⟩
    rw [cutS_from (by decide)]
    refine lc_it walk_zipS (fun i H' => Same H H' ∧ H' D = some (.lst ((((l.zip l.tail).take i).map fun p => decide (p.1 < p.2)).map V.bl))) ⟨Same.upd hD, by rw [upd_same]; rfl⟩ (fun _ _ _ _ => trivial) ?_ ?_
    · rintro i x H1 H2 hi ⟨s1, d1⟩ ⟨T1, x1, y1, rfl, hT, rfl, h1, h2⟩
      replace h1 : (l[i]?).map (fun c => V.str ⟨#[c]⟩) = some x1 := by rw [← at_S]; exact h1
      replace h2 : ((l.drop (1 : Int).toNat)[i]?).map (fun c => V.str ⟨#[c]⟩) = some y1 := by rw [← at_S]; exact h2
      obtain ⟨c, hc, rfl⟩ := Option.map_eq_some_iff.mp h1
      obtain ⟨d, hd, rfl⟩ := Option.map_eq_some_iff.mp h2
      have hz : (l.zip l.tail)[i]? = some (c, d) := zip_tail hc hd
      have nT : D ≠ T1 := ne_of_none d1 hT
      refine ⟨T1, _, rfl, SqT.of upd_same, rfl, _, _, rfl, _, _, rfl, rfl, rfl, ?_⟩
      refine ⟨_, rfl, _, rfl, _, _, rfl, rfl, ?_⟩
      rw [one_lt_S]
      refine ⟨_, by rw [upd_ne nT]; exact d1, ?_, fun b o e => ?_, ?_⟩
      · rw [List.length_map, List.length_map, List.length_take, List.length_zip]; exact small_line (by omega)
      · rw [upd_ne (ne_of_none e hD)]; exact Same.upd hT _ _ (s1 b o e)
      · rw [upd_same, take_snoc hz]; simp
    · rintro H1 ⟨s1, d1⟩
      rw [zip_size, List.take_length] at d1
      refine ⟨D, _, rfl, SqL.of d1, ?_⟩
      have e : ((l.zip l.tail).map fun p => decide (p.1 < p.2)).all id = ascB l := by unfold ascB; rw [List.all_map]; rfl
      rw [e]
      exact k _ s1
/-! _ascends -/
def sp__ascends_list : Sp := fun vs H Q _ => ∃ (a : Addr) (l : List Nat), vs = [.ref a] ∧ H a = some (.lst ((l.map fun c => S [c]).map V.str)) ∧ l.length ≤ 50000 ∧ ∀ H', Same H H' → Q (.bl (ascB l)) H'
theorem ok__ascends_list (T : Txt K mg) : FnOk P w K mg base CX0 1 T.f__ascends T.fd__ascends P__ascends (sp__ascends_list) := by
  have nd : N__ascends.Nodup := sc__ascends.nd
  refine T.F__ascends.ok sc__ascends (fun vs H Q E h => ?_) (fun cdv A outer s H vs Q E hr h => ?_)
  · obtain ⟨a, l, rfl, _⟩ := h
    rfl
  · obtain ⟨a, l, rfl, ha, hl, k⟩ := h
    refine ⟨_, (pss_one (ps_ret (pe_callB (cr_all rfl) (by rfl) T.z_all (by decide +kernel) (pa_cons (pe_lc (own := [("first", 1), ("second", 2)]) (hc := rfl) (hN := nd) (pi_zip (by rfl) T.z_zip (pa_cons (pv 0) (pa_cons (pe_slice sl_list (pv 0) (po_some pe_int) po_none) pa_nil))) (blkOk_by (N := N__ascends) (sc := defScope s__ascends) (by decide +kernel)) (fun _ _ _ _ _ => by exact (pg_tupK K (n := 2) rfl (pgs_cons (by exact (pg_name (i := 1) nd rfl (Or.inl rfl))) (pgs_cons (by exact (pg_name (i := 2) nd rfl (Or.inl rfl))) pgs_nil)))) (fun _ _ _ _ _ => by exact pts_nil) (fun _ _ _ _ _ => by exact (pe_cmpR op_lt_str (pv 1) (pv 2) (nomark _)))) pa_nil)))), ?_⟩
    refine ⟨_, rfl, _, rfl, _, rfl, a, _, rfl, SqL.of ha, fun p hp => ?_⟩
    have hal := Same.upd (o := HO.lst (cutV ((l.map fun c => S [c]).map V.str) (some 1) none)) hp _ _ ha
    have hcut : cutV ((l.map fun c => S [c]).map V.str) (some 1) none = (l.tail.map fun c => S [c]).map V.str := by
      rw [cutV_tail]; simp
    rw [hcut] at hal
    rw [hcut]
    refine ⟨a, p, _, _, rfl, SqL.of hal, SqL.of upd_same, fun D hD => ?_⟩
    refine lc_it (walk_zip (n := (l.zip l.tail).length) (by simp)) (fun i H' => Same (upd H p (.lst ((l.tail.map fun c => S [c]).map V.str))) H' ∧ H' D = some (.lst ((((l.zip l.tail).take i).map fun p => decide (p.1 < p.2)).map V.bl))) ⟨Same.upd hD, by rw [upd_same]; rfl⟩
      (fun i H' _ ⟨s, _⟩ => ⟨SqL.of (s _ _ hal), SqL.of (s _ _ upd_same)⟩) ?_ ?_
    · rintro i x H1 H2 hi ⟨s1, d1⟩ ⟨T1, x1, y1, rfl, hT, rfl, h1, h2⟩
      replace h1 : ((l.map fun c => S [c]).map V.str)[i]? = some x1 := h1
      replace h2 : ((l.tail.map fun c => S [c]).map V.str)[i]? = some y1 := h2
      obtain ⟨c, hc, rfl⟩ : ∃ c, l[i]? = some c ∧ x1 = V.str (S [c]) := by
        rw [List.getElem?_map, List.getElem?_map] at h1
        cases e : l[i]? with
        | none => rw [e] at h1; cases h1
        | some c => rw [e] at h1; exact ⟨c, rfl, (Option.some.inj h1).symm⟩
      obtain ⟨d, hd, rfl⟩ : ∃ c, l.tail[i]? = some c ∧ y1 = V.str (S [c]) := by
        rw [List.getElem?_map, List.getElem?_map] at h2
        cases e : l.tail[i]? with
        | none => rw [e] at h2; cases h2
        | some c => rw [e] at h2; exact ⟨c, rfl, (Option.some.inj h2).symm⟩
      have hz : (l.zip l.tail)[i]? = some (c, d) := by rw [List.getElem?_zip_eq_some]; exact ⟨hc, hd⟩
      have nT : D ≠ T1 := ne_of_none d1 hT
      refine ⟨T1, _, rfl, SqT.of upd_same, rfl, _, _, rfl, _, _, rfl, rfl, rfl, ?_⟩
      refine ⟨_, rfl, _, rfl, _, _, rfl, rfl, ?_⟩
      rw [one_lt_S']
      refine ⟨_, by rw [upd_ne nT]; exact d1, ?_, fun b o e => ?_, ?_⟩
      · rw [List.length_map, List.length_map, List.length_take, List.length_zip]; exact small_line (by omega)
      · rw [upd_ne (ne_of_none e hD)]; exact Same.upd hT _ _ (s1 b o e)
      · rw [upd_same, take_snoc hz]; simp
    · rintro H1 ⟨s1, d1⟩
      rw [List.take_length] at d1
      refine ⟨D, _, rfl, SqL.of d1, ?_⟩
      have e : ((l.zip l.tail).map fun p => decide (p.1 < p.2)).all id = ascB l := by unfold ascB; rw [List.all_map]; rfl
      rw [e]
      exact k _ ((Same.upd hp).trans s1)
/-! letters_priced -/
def sp_letters_priced : Sp := fun vs H Q _ => ∃ (a : Addr) (ps : List (Nat × Int)), vs = [.ref a] ∧ PricesAt H a ps ∧ ps.length ≤ 50000 ∧ ∀ H', Same H H' → Q (.str (S (ps.map (·.1)))) H'
theorem ok_letters_priced (T : Txt K mg) : FnOk P w K mg base CX0 1 T.f_letters_priced T.fd_letters_priced P_letters_priced (sp_letters_priced) := by
  have nd : N_letters_priced.Nodup := sc_letters_priced.nd
  refine T.F_letters_priced.ok sc_letters_priced (fun vs H Q E h => ?_) (fun cdv A outer s H vs Q E hr h => ?_)
  · obtain ⟨a, ps, rfl, _⟩ := h
    rfl
  · obtain ⟨a, ps, rfl, ⟨ts, ha, ht⟩, hl, k⟩ := h
    have tl := Sw.Paired.len ht
    refine ⟨_, (pss_one (ps_ret (pe_join pe_str (pe_lc (own := [("item", 1)]) (hc := rfl) (hN := nd) (pi_list (pv 0)) (blkOk_by (N := N_letters_priced) (sc := defScope s_letters_priced) (by decide +kernel)) (fun _ _ _ _ _ => by exact (pg_name (i := 1) nd rfl (Or.inl rfl))) (fun _ _ _ _ _ => by exact pts_nil) (fun _ _ _ _ _ => by exact (pe_ix (ix_tupK K) (pv 1) pe_int (fun _ _ => rfl))))))), ?_⟩
    refine ⟨⟨_, rfl⟩, _, rfl, a, rfl, ⟨_, SqL.of ha⟩, fun D2 hD2 => ?_⟩
    refine lc_it walk_list (fun i H' => Same H H' ∧ H' D2 = some (.lst (((((ps.take i).map (·.1)).map fun c => S [c])).map V.str))) ⟨Same.upd hD2, by rw [upd_same]; rfl⟩ (fun i H' _ ⟨s, _⟩ => SqL.of (s _ _ ha)) ?_ ?_
    · rintro i x H2 H3 hi ⟨s2, d2⟩ ⟨rfl, hx⟩
      obtain ⟨q, hq, t, rfl, ht2⟩ := Sw.Paired.at ht hx
      refine ⟨rfl, _, rfl, t, _, _, _, rfl, rfl, SqT.of (s2 _ _ ht2), rfl, ?_⟩
      refine ⟨_, d2, ?_, fun b o e => ?_, ?_⟩
      · rw [List.length_map, List.length_map, List.length_map, List.length_take]; exact small_line (by omega)
      · rw [upd_ne (ne_of_none e hD2)]; exact s2 b o e
      · rw [upd_same, take_snoc hq]; simp
    rintro H2 ⟨s2, d2⟩
    rw [tl, List.take_length] at d2
    refine ⟨_, D2, (ps.map (·.1)).map fun c => S [c], rfl, rfl, .inl (SqL.of d2), ?_, ?_⟩
    · exact join_bound (by rw [List.length_map]; omega)
    · rw [join_signs]
      exact k _ s2
/-! sides_changed -/
def sp_sides_changed : Sp := fun vs H Q _ => ∃ (l : List Nat) (p : Nat), vs = [.str (S l), .int (p : Int)] ∧ l.length ≤ 50000 ∧ p < l.length ∧ Q (.str (S (swapL l p))) H
theorem ok_sides_changed (T : Txt K mg) : FnOk P w K mg base CX0 1 T.f_sides_changed T.fd_sides_changed P_sides_changed (sp_sides_changed) := by
  have nd : N_sides_changed.Nodup := sc_sides_changed.nd
  refine T.F_sides_changed.ok sc_sides_changed (fun vs H Q E h => ?_) (fun cdv A outer s H vs Q E hr h => ?_)
  · obtain ⟨l, p, rfl, _⟩ := h
    rfl
  · obtain ⟨l, p, rfl, hl, hp, k⟩ := h
    refine ⟨_, (pss_one (ps_ret (pe_op op_add_str (pe_op op_add_str (pe_slice sl_str (pv 0) (po_some (pe_op op_add (pv 1) pe_int)) po_none) (pe_slice sl_str (pv 0) (po_some (pv 1)) (po_some (pe_op op_add (pv 1) pe_int)))) (pe_slice sl_str (pv 0) po_none (po_some (pv 1)))))), ?_⟩
    have hz : (S l).length ≤ sizeLine := by rw [len_S]; exact small_le (by omega)
    refine ⟨_, rfl, _, rfl, _, _, rfl, rfl, _, rfl, _, rfl, hz, ?_⟩
    refine ⟨_, rfl, _, rfl, _, rfl, _, rfl, _, _, rfl, rfl, _, rfl, _, rfl, hz, ?_⟩
    rw [cutS_from (by omega), show ((p : Int) + 1) = ((p + 1 : Nat) : Int) by omega, cutS_mid (by omega) (by omega), Int.toNat_natCast]
    refine ⟨_, _, rfl, rfl, ?_, ?_⟩
    · rw [len_S, len_S, List.length_drop, List.length_take, List.length_drop]; exact small_le (by omega)
    refine ⟨_, rfl, _, rfl, _, rfl, _, rfl, hz, ?_⟩
    rw [cutS_to (by omega), Int.toNat_natCast, SX.S_cat]
    refine ⟨_, _, rfl, rfl, ?_, ?_⟩
    · rw [len_S, len_S, List.length_append, List.length_drop, List.length_take, List.length_drop, List.length_take]; exact small_le (by omega)
    rw [SX.S_cat, show p + 1 - p = 1 by omega]
    exact k
/-! sides_changed -/
def sp_sides_changed_list : Sp := fun vs H Q _ => ∃ (a : Addr) (xs : List Nat) (p : Nat), vs = [.ref a, .int (p : Int)] ∧ H a = some (.lst (placesV xs)) ∧ xs.length ≤ 50000 ∧ p < xs.length ∧ ∀ m H', H m = none → Same H H' → H' m = some (.lst (placesV (swapL xs p))) → Q (.ref m) H'
theorem ok_sides_changed_list (T : Txt K mg) : FnOk P w K mg base CX0 1 T.f_sides_changed T.fd_sides_changed P_sides_changed (sp_sides_changed_list) := by
  have nd : N_sides_changed.Nodup := sc_sides_changed.nd
  refine T.F_sides_changed.ok sc_sides_changed (fun vs H Q E h => ?_) (fun cdv A outer s H vs Q E hr h => ?_)
  · obtain ⟨a, xs, p, rfl, _⟩ := h
    rfl
  · obtain ⟨a, xs, p, rfl, ha, hl, hp, k⟩ := h
    refine ⟨_, (pss_one (ps_ret (pe_op op_cat (pe_op op_cat (pe_slice sl_list (pv 0) (po_some (pe_op op_add (pv 1) pe_int)) po_none) (pe_slice sl_list (pv 0) (po_some (pv 1)) (po_some (pe_op op_add (pv 1) pe_int)))) (pe_slice sl_list (pv 0) po_none (po_some (pv 1)))))), ?_⟩
    have e1 : ((p : Int) + 1) = ((p + 1 : Nat) : Int) := by omega
    have c1 : cutV (placesV xs) (some ((p : Int) + 1)) none = placesV (xs.drop (p + 1)) := by rw [e1, cutV_from (by rw [List.length_map]; omega)]; simp [placesV]
    have c2 : cutV (placesV xs) (some (p : Int)) (some ((p : Int) + 1)) = placesV ((xs.drop p).take 1) := by rw [e1, cutV_mid (by omega) (by rw [List.length_map]; omega), show p + 1 - p = 1 by omega]; simp [placesV]
    have c3 : cutV (placesV xs) none (some (p : Int)) = placesV (xs.take p) := by rw [cutV_toN (by rw [List.length_map]; omega)]; simp [placesV]
    refine ⟨_, rfl, _, rfl, _, _, rfl, rfl, _, rfl, a, _, rfl, SqL.of ha, fun p1 n1 => ?_⟩
    rw [c1]
    have a1 := Same.upd (o := HO.lst (placesV (xs.drop (p + 1)))) n1 _ _ ha
    refine ⟨_, rfl, _, rfl, _, rfl, _, rfl, _, _, rfl, rfl, _, rfl, a, _, rfl, SqL.of a1, fun p2 n2 => ?_⟩
    rw [c2]
    have a2 := Same.upd (o := HO.lst (placesV ((xs.drop p).take 1))) n2 _ _ a1
    have b2 := Same.upd (o := HO.lst (placesV ((xs.drop p).take 1))) n2 _ _ (upd_same (H := H) (a := p1) (o := HO.lst (placesV (xs.drop (p + 1)))))
    refine ⟨p1, p2, _, _, rfl, rfl, b2, upd_same, ?_, fun p3 n3 => ?_⟩
    · rw [List.length_map, List.length_map, List.length_drop, List.length_take, List.length_drop]; exact small_le (by omega)
    have a3 := Same.upd (o := HO.lst (placesV (xs.drop (p + 1)) ++ placesV ((xs.drop p).take 1))) n3 _ _ a2
    refine ⟨_, rfl, _, rfl, _, rfl, a, _, rfl, SqL.of a3, fun p4 n4 => ?_⟩
    rw [c3]
    refine ⟨p3, p4, _, _, rfl, rfl, Same.upd n4 _ _ upd_same, upd_same, ?_, fun p5 n5 => ?_⟩
    · rw [List.length_append, List.length_map, List.length_map, List.length_map, List.length_drop, List.length_take, List.length_drop, List.length_take]; exact small_le (by omega)
    have s1 := Same.upd (o := HO.lst (placesV (xs.drop (p + 1)))) n1
    have s2 := s1.trans (Same.upd (o := HO.lst (placesV ((xs.drop p).take 1))) n2)
    have s3 := s2.trans (Same.upd (o := HO.lst (placesV (xs.drop (p + 1)) ++ placesV ((xs.drop p).take 1))) n3)
    have s4 := s3.trans (Same.upd (o := HO.lst (placesV (xs.take p))) n4)
    refine k p5 _ (s4.free n5) (s4.trans (Same.upd n5)) (upd_same.trans ?_)
    unfold swapL placesV
    rw [List.map_append, List.map_append]
/-! _law_hash -/
def sp__law_hash : Sp := fun vs H Q _ => ∃ a b : Int, vs = [.int a, .int b] ∧ (0 ≤ a ∧ a < 2147483647) ∧ (0 ≤ b ∧ b ≤ 1000000000) ∧ ∀ r : Int, 0 ≤ r → r < 2147483647 → Q (.int r) H
theorem ok__law_hash (T : Txt K mg) : FnOk P w K mg base CX0 1 T.f__law_hash T.fd__law_hash P__law_hash (sp__law_hash) := by
  have nd : N__law_hash.Nodup := sc__law_hash.nd
  refine T.F__law_hash.ok sc__law_hash (fun vs H Q E h => ?_) (fun cdv A outer s H vs Q E hr h => ?_)
  · obtain ⟨a, b, rfl, _⟩ := h
    rfl
  · obtain ⟨a, b, rfl, ha, hb, k⟩ := h
    refine ⟨_, (pss_cons (ps_set (i := 2) nd rfl (Or.inl rfl) (pe_op op_mod (pe_callTy call_int1 (by rfl) T.z_int (by decide +kernel) (pa_cons (pe_op op_add (pe_op op_add (pe_op op_add (pe_op op_mul (pv 0) pe_int) (pe_op op_mul (pe_op op_mul pe_int (pv 1)) (pv 1))) (pe_op op_mul pe_int (pv 1))) pe_int) pa_nil)) pe_int))
      (pss_cons (ps_set (i := 2) nd rfl (Or.inl rfl) (pe_op op_mod (pe_callTy call_int1 (by rfl) T.z_int (by decide +kernel) (pa_cons (pe_op op_add (pe_op op_add (pe_op op_mul (pv 2) (pv 2)) (pe_op op_mul pe_int (pv 1))) pe_int) pa_nil)) pe_int))
      (pss_one (ps_ret (pe_op op_mod (pe_callTy call_int1 (by rfl) T.z_int (by decide +kernel) (pa_cons (pe_op op_mul (pv 2) pe_int) pa_nil)) pe_int))))), ?_⟩
    refine ⟨_, rfl, _, _, rfl, rfl, .inl ⟨by omega, by omega⟩, _, rfl, _, _, rfl, rfl, .inl ⟨by decide, by decide⟩, _, rfl, _, _, rfl, rfl, .inl ⟨by omega, by omega⟩, ?_⟩
    refine ⟨_, _, rfl, rfl, _, rfl, _, _, rfl, rfl, .inl ⟨by decide, by decide⟩, _, _, rfl, rfl, _, _, rfl, rfl, .inl ⟨_, rfl, ?_⟩⟩
    refine ⟨_, _, rfl, rfl, (by show (0 : Int) < 2147483629; decide), ?_⟩
    refine ⟨_, rfl, _, rfl, _, _, rfl, rfl, .inl ⟨by omega, by omega⟩, _, rfl, _, _, rfl, rfl, .inl ⟨by decide, by decide⟩, _, _, rfl, rfl, _, _, rfl, rfl, .inl ⟨_, rfl, ?_⟩⟩
    refine ⟨_, _, rfl, rfl, (by show (0 : Int) < 2147483587; decide), ?_⟩
    refine ⟨_, rfl, _, _, rfl, rfl, .inl ⟨by omega, by omega⟩, .inl ⟨_, rfl, ?_⟩⟩
    refine ⟨_, _, rfl, rfl, (by show (0 : Int) < 2147483647; decide), ?_⟩
    exact k _ (Int.emod_nonneg _ (by decide)) (Int.emod_lt_of_pos _ (by decide))
/-! _law_cell -/
def sp__law_cell (K : PySem.W.Frag) : Sp := fun vs H Q _ => ∃ (a : Addr) (ns : List Int) (j : Nat), vs = [.ref a, .int (j : Int)] ∧ SqL K H a (ns.map V.int) ∧ ∀ (r : Int) H', Same H H' → Q (.int r) H'
theorem ok__law_cell (T : Txt K mg) : FnOk P w K mg base CX0 1 T.f__law_cell T.fd__law_cell P__law_cell (sp__law_cell K) := by
  have nd : N__law_cell.Nodup := sc__law_cell.nd
  refine T.F__law_cell.ok sc__law_cell (fun vs H Q E h => ?_) (fun cdv A outer s H vs Q E hr h => ?_)
  · obtain ⟨a, ns, j, rfl, _⟩ := h
    rfl
  · obtain ⟨a, ns, j, rfl, hS, k⟩ := h
    refine ⟨_, (pss_cons (ps_if (pt_cmpR op_lt (pv 1) (pe_callB call_len_seq (by rfl) T.z_len (by decide +kernel) (pa_cons (pv 0) pa_nil)) (nomark _)) (pss_one (ps_ret (pe_ix ix_list (pv 0) (pv 1) (fun _ _ => rfl)))) pss_nil)
      (pss_one (ps_ret (pe_op op_mod (pe_callB (cr_sum rfl) (by rfl) T.z_sum (by decide +kernel) (pa_cons (pe_slice sl_list (pv 0) po_none (po_some pe_int)) pa_nil)) pe_int)))), ?_⟩
    refine ⟨_, rfl, _, rfl, a, _, rfl, .inl hS, _, _, rfl, rfl, _, rfl, ite2 (fun q => ?_) (fun q => ?_)⟩
    · have q' : j < ns.length := by have := of_decide_eq_true q; rw [List.length_map] at this; omega
      exact ⟨_, rfl, _, rfl, a, _, _, V.int ns[j], rfl, rfl, hS, atI_nat (by rw [List.getElem?_map, List.getElem?_eq_getElem q']; rfl), k _ _ (Same.refl _)⟩
    · refine ⟨_, rfl, _, rfl, a, _, rfl, hS, fun p hp => ?_⟩
      refine ⟨p, ns.take 1, rfl, SqL.of (by rw [upd_same, cutV_to1]), _, _, rfl, rfl, (by show (0 : Int) < 1000003; decide), k _ _ (Same.upd hp)⟩
/-! _law_swapped -/
def sp__law_swapped : Sp := fun vs H Q _ => ∃ (l : List Nat) (p : Nat), vs = [.str (S l), .int (p : Int)] ∧ l.length ≤ 50000 ∧ p < l.length ∧ Q (.str (S (swapL l p))) H
theorem ok__law_swapped (T : Txt K mg) : FnOk P w K mg base CX0 1 T.f__law_swapped T.fd__law_swapped P__law_swapped (sp__law_swapped) := by
  have nd : N__law_swapped.Nodup := sc__law_swapped.nd
  refine T.F__law_swapped.ok sc__law_swapped (fun vs H Q E h => ?_) (fun cdv A outer s H vs Q E hr h => ?_)
  · obtain ⟨l, p, rfl, _⟩ := h
    rfl
  · obtain ⟨l, p, rfl, hl, hp, k⟩ := h
    refine ⟨_, (pss_one (ps_ret (pe_op op_add_str (pe_op op_add_str (pe_slice sl_str (pv 0) (po_some (pe_op op_add (pv 1) pe_int)) po_none) (pe_item_str (pv 0) (pv 1) (fun _ _ => rfl))) (pe_slice sl_str (pv 0) po_none (po_some (pv 1)))))), ?_⟩
    have hz : (S l).length ≤ sizeLine := by rw [len_S]; exact small_le (by omega)
    have hc : l[p]? = some l[p] := List.getElem?_eq_getElem hp
    refine ⟨_, rfl, _, rfl, _, _, rfl, rfl, _, rfl, _, rfl, hz, ?_⟩
    rw [cutS_from (by omega), show ((p : Int) + 1).toNat = p + 1 by omega]
    refine ⟨_, rfl, _, rfl, S l, p, l[p], rfl, rfl, by omega, by omega, by rw [len_S]; omega, by rw [Int.toNat_natCast, at_S]; exact hc, ?_⟩
    refine ⟨_, S [l[p]], rfl, rfl, ?_, ?_⟩
    · rw [len_S, len_S, List.length_drop]; exact small_le (by simp; omega)
    refine ⟨_, rfl, _, rfl, _, rfl, _, rfl, hz, ?_⟩
    rw [cutS_to (by omega), Int.toNat_natCast, SX.S_cat]
    refine ⟨_, _, rfl, rfl, ?_, ?_⟩
    · rw [len_S, len_S, List.length_append, List.length_drop, List.length_take]; exact small_le (by simp; omega)
    rw [SX.S_cat, ← swapL_one hc]
    exact k
/-! _law_moved -/
def sp__law_moved : Sp := fun vs H Q _ => ∃ (n : Nat) (r : List Nat) (v : Addr), vs = [.int (n : Int), .ref v] ∧ H v = some (.lst (placesV r)) ∧ n ≤ 50000 ∧ (∀ p ∈ r, p < n) ∧ ∀ m H', H m = none → Same H H' → H' m = some (.lst (placesV (ends (List.range n) r))) → Q (.ref m) H'
theorem ok__law_moved (T : Txt K mg) : FnOk P w K mg base CX0 1 T.f__law_moved T.fd__law_moved P__law_moved (sp__law_moved) := by
  have nd : N__law_moved.Nodup := sc__law_moved.nd
  refine T.F__law_moved.ok sc__law_moved (fun vs H Q E h => ?_) (fun cdv A outer s H vs Q E hr h => ?_)
  · obtain ⟨n, r, v, rfl, _⟩ := h
    rfl
  · obtain ⟨n, r, v, rfl, hv, hn, hp0, k⟩ := h
    refine ⟨_, (pss_cons (ps_set (i := 2) nd rfl (Or.inl rfl) (pe_listRg rfl rfl T.z_list (prg_1 rfl T.z_range (pv 0))))
      (pss_cons (ps_for PassesOwn.never rfl (pi_list (pv 1)) (pg_name (i := 3) nd rfl (Or.inl rfl))
      (pss_one (ps_set (i := 2) nd rfl (Or.inl rfl) (pe_op op_cat (pe_op op_cat (pe_slice sl_list (pv 2) (po_some (pe_op op_add (pv 3) pe_int)) po_none) (pe_lst (pa_cons (pe_ix ix_list (pv 2) (pv 3) (fun _ _ => rfl)) pa_nil))) (pe_slice sl_list (pv 2) po_none (po_some (pv 3)))))))
      (pss_one (ps_ret (pv 2))))), ?_⟩
    refine ⟨_, rfl, _, rfl, RgOk.of_le (by omega) (by omega) (by omega) (by omega), fun m hm => ?_⟩
    rw [rg_places]
    have s2 := Same.upd (o := HO.lst (placesV (List.range n))) hm
    refine ⟨_, rfl, v, rfl, ⟨_, SqL.of (s2 _ _ hv)⟩, for_list (K := K) (a := v) (xs := placesV r) (fun i σ H' => ∃ (pv : Option V) (m' : Addr), σ = [some (.int (n : Nat)), some (.ref v), some (.ref m'), pv] ∧ Same H H' ∧ H m' = none ∧ H' m' = some (.lst (placesV (ends (List.range n) (r.take i))))) ⟨none, m, rfl, s2, hm, upd_same⟩ (fun i σ H' _ ⟨_, _, _, s, _⟩ => SqL.of (s _ _ hv)) ?_ ?_⟩
    · rintro i y σ H2 hi ⟨pv, m', rfl, s3, f3, d3⟩
      obtain ⟨p, hp, rfl⟩ := place_of hi
      have hpl : p < n := hp0 p (List.mem_of_getElem? hp)
      generalize hxs : ends (List.range n) (r.take i) = xs at d3
      have hel : xs.length = n := by
        rw [← hxs, ends_len fun q hq => by rw [List.length_range]; exact hp0 q (List.mem_of_mem_take hq), List.length_range]
      have e1 : ((p : Int) + 1) = ((p + 1 : Nat) : Int) := by omega
      have c1 : cutV (placesV xs) (some ((p : Int) + 1)) none = placesV (xs.drop (p + 1)) := by rw [e1, cutV_from (by rw [List.length_map]; omega)]; simp [placesV]
      have c3 : cutV (placesV xs) none (some (p : Int)) = placesV (xs.take p) := by rw [cutV_toN (by rw [List.length_map]; omega)]; simp [placesV]
      have hc : xs[p]? = some xs[p] := List.getElem?_eq_getElem (by omega)
      refine ⟨_, rfl, _, rfl, _, _, rfl, rfl, _, rfl, m', _, rfl, SqL.of d3, fun p1 n1 => ?_⟩
      rw [c1]
      have a1 := Same.upd (o := HO.lst (placesV (xs.drop (p + 1)))) n1 _ _ d3
      refine ⟨_, rfl, _, rfl, m', _, _, V.int xs[p], rfl, rfl, SqL.of a1, atI_nat (by rw [List.getElem?_map, hc]; rfl), (by show 1 ≤ sizeLine; decide), fun p2 n2 => ?_⟩
      have a2 := Same.upd (o := HO.lst [V.int xs[p]]) n2 _ _ a1
      have b2 := Same.upd (o := HO.lst [V.int xs[p]]) n2 _ _ (upd_same (H := H2) (a := p1) (o := HO.lst (placesV (xs.drop (p + 1)))))
      refine ⟨p1, p2, _, _, rfl, rfl, b2, upd_same, ?_, fun p3 n3 => ?_⟩
      · rw [List.length_map, List.length_drop]; exact small_le (by simp; omega)
      have a3 := Same.upd (o := HO.lst (placesV (xs.drop (p + 1)) ++ [V.int xs[p]])) n3 _ _ a2
      refine ⟨_, rfl, _, rfl, _, rfl, m', _, rfl, SqL.of a3, fun p4 n4 => ?_⟩
      rw [c3]
      refine ⟨p3, p4, _, _, rfl, rfl, Same.upd n4 _ _ upd_same, upd_same, ?_, fun p5 n5 => ?_⟩
      · rw [List.length_append, List.length_map, List.length_map, List.length_drop, List.length_take]; exact small_le (by simp; omega)
      have s4 := s3.trans (Same.upd (o := HO.lst (placesV (xs.drop (p + 1)))) n1)
      have s5 := s4.trans (Same.upd (o := HO.lst [V.int xs[p]]) n2)
      have s6 := s5.trans (Same.upd (o := HO.lst (placesV (xs.drop (p + 1)) ++ [V.int xs[p]])) n3)
      have s7 := s6.trans (Same.upd (o := HO.lst (placesV (xs.take p))) n4)
      refine ⟨_, p5, rfl, s7.trans (Same.upd n5), s7.free n5, upd_same.trans ?_⟩
      rw [ends_take hp, hxs, swapL_one hc]
      simp [placesV]
    rintro σ H2 ⟨pv, m', rfl, s3, f3, d3⟩
    rw [List.length_map, List.take_length] at d3
    exact ⟨_, rfl, k m' H2 f3 s3 d3⟩
/-! is_joints -/
def sp_is_joints : Sp := fun vs H Q _ => ∃ l : List Nat, vs = [.str (S l)] ∧ l.length ≤ 50000 ∧ ∀ H', Same H H' → Q (.bl (jointsB l)) H'
theorem ok_is_joints (T : Txt K mg) : FnOk P w K mg base CX0 2 T.f_is_joints T.fd_is_joints P_is_joints (sp_is_joints) := by
  have nd : N_is_joints.Nodup := sc_is_joints.nd
  refine T.F_is_joints.ok sc_is_joints (fun vs H Q E h => ?_) (fun cdv A outer s H vs Q E hr h => ?_)
  · obtain ⟨l, rfl, _⟩ := h
    rfl
  · obtain ⟨l, rfl, hl, k⟩ := h
    refine ⟨_, (pss_one (ps_ret (pe_and (pe_call (ok_is_word T) (hr.mono (by decide)) rfl T.m_is_word T.F_is_word.kp T.b_is_word .nil pass0 (pa_cons (pv 0) pa_nil)) (pe_one (pe_call (ok__ascends T) (hr.mono (by decide)) rfl T.m__ascends T.F__ascends.kp T.b__ascends .nil pass0 (pa_cons (pv 0) pa_nil)))))), ?_⟩
    refine ⟨_, rfl, l, rfl, hl, fun H1 s1 => ⟨_, rfl, ite2 (fun z => ?_) (fun z => ?_)⟩⟩
    · refine ⟨_, rfl, l, rfl, hl, fun H2 s2 => ?_⟩
      have e : ascB l = jointsB l := by unfold jointsB; rw [z]; rfl
      rw [e]
      exact k _ (s1.trans s2)
    · have e : jointsB l = false := by unfold jointsB; rw [Bool.eq_false_iff.mpr z]; rfl
      have q := k _ s1
      rw [e] at q
      exact q
/-! is_letter -/
def sp_is_letter : Sp := fun vs H Q _ => ∃ c : Nat, vs = [.str (S [c])] ∧ (97 ≤ c ∧ c ≤ 122) ∧ ∀ H', Same H H' → Q (.bl true) H'
theorem ok_is_letter (T : Txt K mg) : FnOk P w K mg base CX0 2 T.f_is_letter T.fd_is_letter P_is_letter (sp_is_letter) := by
  have nd : N_is_letter.Nodup := sc_is_letter.nd
  refine T.F_is_letter.ok sc_is_letter (fun vs H Q E h => ?_) (fun cdv A outer s H vs Q E hr h => ?_)
  · obtain ⟨c, rfl, _⟩ := h
    rfl
  · obtain ⟨c, rfl, hc, k⟩ := h
    refine ⟨_, (pss_one (ps_ret (pe_and (pe_call (ok_is_word T) (hr.mono (by decide)) rfl T.m_is_word T.F_is_word.kp T.b_is_word .nil pass0 (pa_cons (pv 0) pa_nil)) (pe_one (pe_cmpR op_eq (pe_callB call_len (by rfl) T.z_len (by decide +kernel) (pa_cons (pv 0) pa_nil)) pe_int (nomark _)))))), ?_⟩
    refine ⟨_, rfl, [c], rfl, (by show 1 ≤ 50000; decide), fun H1 s1 => ⟨_, rfl, ?_⟩⟩
    rw [wordB_of (l := [c]) fun d hd => by rw [List.mem_singleton.mp hd]; exact hc]
    refine iteT ?_
    exact ⟨_, rfl, _, 1, rfl, ⟨(by show 1 ≤ sizeLine; decide), rfl⟩, rfl, k _ s1⟩
/-! check_word -/
def sp_check_word : Sp := fun vs H Q _ => ∃ l : List Nat, vs = [.str (S l)] ∧ l.length ≤ 50000 ∧ wordB l = true ∧ ∀ H', Same H H' → Q .non H'
theorem ok_check_word (T : Txt K mg) : FnOk P w K mg base CX0 2 T.f_check_word T.fd_check_word P_check_word (sp_check_word) := by
  have nd : N_check_word.Nodup := sc_check_word.nd
  refine T.F_check_word.ok sc_check_word (fun vs H Q E h => ?_) (fun cdv A outer s H vs Q E hr h => ?_)
  · obtain ⟨l, rfl, _⟩ := h
    rfl
  · obtain ⟨l, rfl, hl, hw, k⟩ := h
    refine ⟨_, (pss_one (ps_if (pt_not (pt_val (pe_call (ok_is_word T) (hr.mono (by decide)) rfl T.m_is_word T.F_is_word.kp T.b_is_word .nil pass0 (pa_cons (pv 0) pa_nil)))) pss_never pss_nil)), ?_⟩
    refine ⟨_, rfl, l, rfl, hl, fun H1 s1 => ⟨_, rfl, ?_⟩⟩
    rw [hw]
    exact iteF (k _ s1)
/-! _is_open -/
def sp__is_open : Sp := fun vs H Q _ => ∃ (l js : List Nat) (p c : Nat), vs = [.str (S l), .str (S js), .int (p : Int)] ∧ l.length ≤ 50000 ∧ l[p]? = some c ∧ Q (.bl (decide (c ∈ js))) H
theorem ok__is_open (T : Txt K mg) : FnOk P w K mg base CX0 2 T.f__is_open T.fd__is_open P__is_open (sp__is_open) := by
  have nd : N__is_open.Nodup := sc__is_open.nd
  refine T.F__is_open.ok sc__is_open (fun vs H Q E h => ?_) (fun cdv A outer s H vs Q E hr h => ?_)
  · obtain ⟨l, js, p, c, rfl, _⟩ := h
    rfl
  · obtain ⟨l, js, p, c, rfl, hl, hc, k⟩ := h
    have hp : p < l.length := (List.getElem?_eq_some_iff.mp hc).1
    refine ⟨_, (pss_one (ps_ret (pe_and (pe_call (ok_is_count T) (hr.mono (by decide)) rfl T.m_is_count T.F_is_count.kp T.b_is_count .nil pass0 (pa_cons (pv 2) pa_nil)) (pe_and (pe_cmpR op_lt (pv 2) (pe_callB call_len (by rfl) T.z_len (by decide +kernel) (pa_cons (pv 0) pa_nil)) (nomark _)) (pe_one (pe_cmpR op_in_sign (pe_item_str (pv 0) (pv 2) (fun _ _ => rfl)) (pv 1) rfl)))))), ?_⟩
    refine ⟨_, rfl, _, rfl, _, rfl, ?_⟩
    rw [decide_eq_true (by omega : (0 : Int) ≤ (p : Int))]
    refine iteT ?_
    refine ⟨_, rfl, _, rfl, _, l.length, rfl, ⟨by rw [len_S]; exact small_le (by omega), by rw [len_S]⟩, _, _, rfl, rfl, _, rfl, ?_⟩
    rw [decide_eq_true (by omega : (p : Int) < ((l.length : Nat) : Int))]
    refine iteT ?_
    exact ⟨_, rfl, _, rfl, S l, p, c, rfl, rfl, by omega, by omega, by rw [len_S]; omega, by rw [Int.toNat_natCast, at_S]; exact hc, _, rfl, c, S js, rfl, rfl, k⟩
/-! back_road -/
def sp_back_road : Sp := fun vs H Q _ => ∃ (n : Nat) (r : List Nat) (v : Addr), vs = [.int (n : Int), .ref v] ∧ H v = some (.lst (placesV r)) ∧ n ≤ 300 ∧ (∀ p ∈ r, p < n) ∧ r.length ≤ 50000 ∧ ∀ m H', H m = none → Same H H' → H' m = some (.lst (placesV (backL n r))) → Q (.ref m) H'
theorem ok_back_road (T : Txt K mg) : FnOk P w K mg base CX0 2 T.f_back_road T.fd_back_road P_back_road (sp_back_road) := by
  have nd : N_back_road.Nodup := sc_back_road.nd
  refine T.F_back_road.ok sc_back_road (fun vs H Q E h => ?_) (fun cdv A outer s H vs Q E hr h => ?_)
  · obtain ⟨n, r, v, rfl, _⟩ := h
    rfl
  · obtain ⟨n, r, v, rfl, hv, hn, hp, hr2, k⟩ := h
    refine ⟨_, (pss_cons (ps_if (PW.pt (pw_or (pt_not (pt_val (pe_call (ok_is_count T) (hr.mono (by decide)) rfl T.m_is_count T.F_is_count.kp T.b_is_count .nil pass0 (pa_cons (pv 0) pa_nil)))) (pw_or1 (pt_cmpR op_gt (pv 0) (pe_glob (v := .int 300) rfl T.g_LONGEST.choose_spec ⟨_, rfl⟩) (nomark _))))) pss_never pss_nil)
      (pss_cons (ps_if (PW.pt (pw_or (pt_not (pt_val (pe_callB call_isi (by rfl) T.z_isinstance (by decide +kernel) (pa_cons (pv 1) (pa_cons (pe_bltn (v := .ty "list") (by rfl) T.z_list (by decide +kernel) rfl) pa_nil))))) (pw_or1 (pt_not (pt_val (pe_callB (cr_all rfl) (by rfl) T.z_all (by decide +kernel) (pa_cons (pe_lc (own := [("place", 2)]) (hc := rfl) (hN := nd) (pi_list (pv 1)) (blkOk_by (N := N_back_road) (sc := defScope s_back_road) (by decide +kernel)) (fun _ _ _ _ _ => by exact (pg_name (i := 2) nd rfl (Or.inl rfl))) (fun _ _ _ _ _ => by exact pts_nil) (fun _ _ _ _ _ => by exact (pe_and (pe_call (ok_is_count T) (hr.mono (by decide)) rfl T.m_is_count T.F_is_count.kp T.b_is_count .nil pass0 (pa_cons (pv 2) pa_nil)) (pe_one (pe_cmpR op_lt (pv 2) (pv 0) (nomark _)))))) pa_nil))))))) pss_never pss_nil)
      (pss_one (ps_ret (pe_lc (own := [("place", 2)]) (hc := rfl) (hN := nd) (pi_reversed (by rfl) T.z_reversed (pa_cons (pv 1) pa_nil)) (blkOk_by (N := N_back_road) (sc := defScope s_back_road) (by decide +kernel)) (fun _ _ _ _ _ => by exact (pg_name (i := 2) nd rfl (Or.inl rfl))) (fun _ _ _ _ _ => by exact pts_nil) (fun _ _ _ _ _ => by exact (pe_op op_sub (pe_op op_sub (pv 0) pe_int) (pv 2)))))))), ?_⟩
    refine ⟨_, rfl, _, rfl, _, rfl, ?_⟩
    rw [decide_eq_true (by omega : (0 : Int) ≤ (n : Int))]
    refine iteF ?_
    refine ⟨_, rfl, _, _, rfl, rfl, _, rfl, ?_⟩
    rw [show decide ((n : Int) > 300) = false from decide_eq_false (by omega)]
    refine iteF ?_
    refine ⟨_, rfl, _, _, _, _, _, rfl, ClsV.ty "list", .base (.lst hv), kit_ty (by decide +kernel), true, rfl, iteF ?_⟩
    refine ⟨_, rfl, v, rfl, ⟨_, SqL.of hv⟩, fun D hD => ?_⟩
    refine lc_it walk_list (fun i H' => Same H H' ∧ H' D = some (.lst ((List.replicate i true).map V.bl))) ⟨Same.upd hD, by rw [upd_same]; rfl⟩ (fun i H' _ ⟨s, _⟩ => SqL.of (s _ _ hv)) ?_ ?_
    · rintro i x H1 H2 hi ⟨s1, d1⟩ ⟨rfl, hx⟩
      obtain ⟨p, hq, rfl⟩ := place_of hx
      have hpn := hp p (List.mem_of_getElem? hq)
      have hil : i < r.length := (List.getElem?_eq_some_iff.mp hq).1
      refine ⟨rfl, _, rfl, _, rfl, _, rfl, ?_⟩
      rw [decide_eq_true (by omega : (0 : Int) ≤ (p : Int))]
      refine iteT ?_
      refine ⟨_, rfl, _, rfl, _, _, rfl, rfl, ?_⟩
      refine ⟨_, d1, ?_, fun b o e => ?_, ?_⟩
      · rw [List.length_map, List.length_replicate]; exact small_line (by omega)
      · rw [upd_ne (ne_of_none e hD)]; exact s1 b o e
      · rw [upd_same, List.replicate_succ']; simp [hpn]
    rintro H1 ⟨s1, d1⟩
    refine ⟨D, _, rfl, SqL.of d1, true, ?_, iteF ?_⟩
    · have e : ∀ m, (List.replicate m true).all id = true := fun m => List.all_eq_true.mpr fun x hx => (List.mem_replicate.mp hx).2
      rw [e]
    refine ⟨_, rfl, v, _, rfl, SqL.of (s1 _ _ hv), fun D2 hD2 => ?_⟩
    refine lc_it walk_rev (fun i H' => Same H1 H' ∧ H' D2 = some (.lst (placesV ((backL n r).take i)))) ⟨Same.upd hD2, upd_same⟩ (fun i H' _ ⟨s, _⟩ => SqL.of (s _ _ (s1 _ _ hv))) ?_ ?_
    · rintro i x H2 H3 hi ⟨s2, d2⟩ ⟨rfl, hx⟩
      rw [List.length_map] at hi
      obtain ⟨p, hq, rfl⟩ := place_of hx
      rw [List.length_map] at hq
      have hpn := hp p (List.mem_of_getElem? hq)
      have hb : (backL n r)[i]? = some (n - 1 - p) := by
        unfold backL
        rw [List.getElem?_map, List.getElem?_reverse (by omega), hq]
        rfl
      refine ⟨rfl, _, rfl, _, _, rfl, rfl, _, rfl, _, _, rfl, rfl, ?_⟩
      refine ⟨_, d2, ?_, fun b o e => ?_, ?_⟩
      · rw [List.length_map, List.length_take]; exact small_line (by omega)
      · rw [upd_ne (ne_of_none e hD2)]; exact s2 b o e
      · rw [upd_same, take_snoc hb]
        have e : ((n : Int) - 1 - (p : Int)) = ((n - 1 - p : Nat) : Int) := by omega
        simp [placesV, e]
    rintro H2 ⟨s2, d2⟩
    rw [List.length_map, show (backL n r).take r.length = backL n r from List.take_of_length_le (by unfold backL; simp)] at d2
    exact k D2 H2 (s1.free hD2) (s1.trans s2) d2
/-! _law_random -/
def sp__law_random : Sp := fun vs H Q _ => ∃ (g : Addr) (n : Int) (b : Nat), vs = [.ref g, .int n] ∧ GenAt H g b ∧ b ≤ 900000000 ∧ 0 < n ∧ n.natAbs < 2 ^ 120 ∧ ∀ (r : Int) H', 0 ≤ r → r < n → But g H H' → GenAt H' g (b + 10) → Q (.int r) H'
theorem ok__law_random (T : Txt K mg) : FnOk P w K mg base CX0 2 T.f__law_random T.fd__law_random P__law_random (sp__law_random) := by
  have nd : N__law_random.Nodup := sc__law_random.nd
  refine T.F__law_random.ok sc__law_random (fun vs H Q E h => ?_) (fun cdv A outer s H vs Q E hr h => ?_)
  · obtain ⟨a, n, b, rfl, _⟩ := h
    rfl
  · obtain ⟨g, n, b, rfl, ⟨x, y, z, h0, hx, hy, hz⟩, hb, hn0, hn1, k⟩ := h
    refine ⟨_, (pss_cons (ps_if (pt_cmpR op_gt (pe_ix ix_list (pv 0) pe_int (fun _ _ => rfl)) pe_int (nomark _)) (pss_cons (ps_set (i := 2) nd rfl (Or.inl rfl) (pe_op op_mod (pe_callTy call_int1 (by rfl) T.z_int (by decide +kernel) (pa_cons (pe_ix ix_list (pv 0) pe_int (fun _ _ => rfl)) pa_nil)) (pv 1)))
      (pss_cons (ps_asg (pe_op op_fdivW (pe_ix ix_list (pv 0) pe_int (fun _ _ => rfl)) (pv 1)) (pg_sub (pv 0) pe_int set_list))
      (pss_one (ps_ret (pv 2))))) pss_nil)
      (pss_cons (ps_set (i := 2) nd rfl (Or.inl rfl) pe_int)
      (pss_cons (ps_for PassesOwn.never rfl (pi_range1 rfl T.z_range (pa_cons (pe_op op_add pe_int (pe_op op_fdivW (pe_bits (pv 1)) pe_int)) pa_nil)) (pg_name (i := 3) nd rfl (Or.inl rfl))
      (pss_cons (ps_asg (pe_op op_add (pe_ix ix_list (pv 0) pe_int (fun _ _ => rfl)) pe_int) (pg_sub (pv 0) pe_int set_list))
      (pss_one (ps_set (i := 2) nd rfl (Or.inl rfl) (pe_op op_add (pe_op op_mul (pv 2) pe_int) (pe_call (ok__law_hash T) (hr.mono (by decide)) rfl T.m__law_hash T.F__law_hash.kp T.b__law_hash .nil pass0 (pa_cons (pe_ix ix_list (pv 0) pe_int (fun _ _ => rfl)) (pa_cons (pe_ix ix_list (pv 0) pe_int (fun _ _ => rfl)) pa_nil))))))))
      (pss_one (ps_ret (pe_op op_mod (pe_callTy call_int1 (by rfl) T.z_int (by decide +kernel) (pa_cons (pv 2) pa_nil)) (pv 1))))))), ?_⟩
    have rd : ∀ {H' : Hp} {x y z : Int}, H' g = some (.lst [.int x, .int y, .int z]) → SqL K H' g [.int x, .int y, .int z] := fun q => SqL.of q
    refine ⟨_, rfl, g, _, _, V.int x, rfl, rfl, rd h0, rfl, _, _, rfl, rfl, _, rfl, ?_⟩
    refine ite2 (fun q => ?_) (fun q => ?_)
    · refine ⟨_, rfl, g, _, _, V.int x, rfl, rfl, rd h0, rfl, .inl ⟨_, rfl, _, rfl, _, _, rfl, rfl, hn0, ?_⟩⟩
      refine ⟨_, rfl, g, _, _, V.int x, rfl, rfl, rd h0, rfl, _, rfl, _, _, rfl, rfl, wide_div hn0 hn1 (by decide) (by decide), ?_⟩
      refine ⟨_, rfl, g, _, _, 0, rfl, rfl, h0, rfl, _, rfl, ?_⟩
      refine k _ _ (Int.emod_nonneg _ (by omega)) (Int.emod_lt_of_pos _ hn0) But.upd ⟨x / n, y, z, upd_same, ⟨Int.ediv_nonneg hx.1 (by omega), ?_⟩, hy, hz.1, by omega⟩
      exact wide_le (Int.ediv_nonneg hx.1 (by omega)) (Int.ediv_le_self _ hx.1) hx.2
    · have hbits : Builtin.Int.intBits n ≤ 121 := by
        have := PySem.Flt.log2_lt_of (by decide) hn1
        unfold Builtin.Int.intBits
        split <;> omega
      refine ⟨_, rfl, _, rfl, _, _, rfl, rfl, wide_div (b := 5) (by decide) (by decide) (by decide) (by decide), _, _, rfl, rfl, ?_⟩
      refine ⟨_, rfl, by omega, by omega, ?_⟩
      refine for_range (lo := 0) (n := ((1 : Int) + ((Builtin.Int.intBits n : Nat) : Int) / 30).toNat) (fun i σ H' => ∃ (d w : Int) (v : Option V), σ = [some (.ref g), some (.int n), some (.int d), v] ∧ But g H H' ∧ H' g = some (.lst [.int x, .int y, .int w]) ∧ 0 ≤ w ∧ w ≤ z + i) ⟨0, z, none, rfl, But.refl _ _, h0, hz.1, by omega⟩ ?_ ?_
      · rintro i σ H1 hi ⟨d, w, v, rfl, b1, g1, w0, w1⟩
        refine ⟨_, rfl, g, _, _, V.int w, rfl, rfl, rd g1, rfl, _, _, rfl, rfl, ?_⟩
        refine ⟨_, rfl, g, _, _, 2, rfl, rfl, g1, rfl, ?_⟩
        have g2 : upd H1 g (.lst [.int x, .int y, .int (w + 1)]) g = some (.lst [.int x, .int y, .int (w + 1)]) := upd_same
        refine ⟨_, rfl, _, _, rfl, rfl, .inr ⟨by decide, by decide⟩, _, rfl, g, _, _, V.int y, rfl, rfl, rd g2, rfl, _, rfl, g, _, _, V.int (w + 1), rfl, rfl, rd g2, rfl, y, w + 1, rfl, hy, ⟨by omega, by omega⟩, fun r r0 r1 => ?_⟩
        refine ⟨_, _, rfl, rfl, ?_⟩
        exact ⟨_, w + 1, _, rfl, b1.trans But.upd, g2, by omega, by omega⟩
      · rintro σ H1 ⟨d, w, v, rfl, b1, g1, w0, w1⟩
        refine ⟨_, rfl, .inl ⟨_, rfl, _, rfl, _, _, rfl, rfl, hn0, ?_⟩⟩
        exact k _ _ (Int.emod_nonneg _ (by omega)) (Int.emod_lt_of_pos _ hn0) b1 ⟨x, y, w, g1, hx, hy, w0, by omega⟩
/-! _law_generator -/
def sp__law_generator (K : PySem.W.Frag) : Sp := fun vs H Q _ => ∃ (a : Addr) (ns : List Int) (j : Nat), vs = [.ref a, .int (j : Int)] ∧ SqL K H a (ns.map V.int) ∧ j ≤ 1000 ∧ ∀ (g : Addr) H', H g = none → Same H H' → GenAt H' g (1000 * j) → Q (.ref g) H'
theorem ok__law_generator (T : Txt K mg) : FnOk P w K mg base CX0 2 T.f__law_generator T.fd__law_generator P__law_generator (sp__law_generator K) := by
  have nd : N__law_generator.Nodup := sc__law_generator.nd
  refine T.F__law_generator.ok sc__law_generator (fun vs H Q E h => ?_) (fun cdv A outer s H vs Q E hr h => ?_)
  · obtain ⟨a, ns, j, rfl, _⟩ := h
    rfl
  · obtain ⟨a, ns, j, rfl, hS, hj, k⟩ := h
    refine ⟨_, (pss_cons (ps_set (i := 2) nd rfl (Or.inl rfl) (pe_call (ok__law_cell T) (hr.mono (by decide)) rfl T.m__law_cell T.F__law_cell.kp T.b__law_cell .nil pass0 (pa_cons (pv 0) (pa_cons (pv 1) pa_nil))))
      (pss_one (ps_ret (pe_lst (pa_cons (pe_op op_mod (pe_callTy call_int1 (by rfl) T.z_int (by decide +kernel) (pa_cons (pe_callB (call_max2 rfl) (by rfl) T.z_max (by decide +kernel) (pa_cons (pe_op op_sub (pv 2) (pe_op op_powW pe_int pe_int)) (pa_cons pe_int pa_nil))) pa_nil)) (pe_op op_powW (pe_op op_powW pe_int pe_int) pe_int)) (pa_cons (pe_op op_mod (pe_callTy call_int1 (by rfl) T.z_int (by decide +kernel) (pa_cons (pv 2) pa_nil)) pe_int) (pa_cons (pe_op op_mul pe_int (pv 1)) pa_nil))))))), ?_⟩
    refine ⟨_, rfl, _, rfl, a, ns, j, rfl, hS, fun r H1 s1 => ?_⟩
    refine ⟨_, rfl, _, _, rfl, rfl, ⟨by decide, by decide +kernel⟩, _, _, rfl, rfl, _, _, rfl, .inl ⟨_, rfl, ?_⟩⟩
    refine ⟨_, _, rfl, rfl, ⟨by decide, by decide +kernel⟩, _, _, rfl, rfl, ⟨by decide, by decide +kernel⟩, _, _, rfl, rfl, (by show (0 : Int) < (10 ^ (60 : Int).toNat) ^ (10 : Int).toNat; decide +kernel), ?_⟩
    refine ⟨_, rfl, .inl ⟨_, rfl, _, _, rfl, rfl, (by show (0 : Int) < 2147483647; decide), _, rfl, _, _, rfl, rfl, .inl ⟨by decide, by decide⟩, (by show 3 ≤ sizeLine; decide), fun p hp => ?_⟩⟩
    refine k p _ (s1.free hp) (s1.trans (Same.upd hp)) ⟨_, _, _, upd_same, seed_ok _, ⟨Int.emod_nonneg _ (by decide), Int.emod_lt_of_pos _ (by decide)⟩, by omega, by omega⟩
/-! _law_cost -/
def sp__law_cost : Sp := fun vs H Q _ => ∃ (l r : List Nat) (ps : List (Nat × Int)) (a v : Addr), vs = [.str (S l), .ref a, .ref v] ∧ PricesAt H a ps ∧ PricesOk ps ∧ ps.length ≤ 50000 ∧ H v = some (.lst (placesV r)) ∧ l.length ≤ 50000 ∧ (∀ p ∈ r, p < l.length) ∧ ∀ H', Same H H' → Q (.int (costL ps l r)) H'
theorem ok__law_cost (T : Txt K mg) : FnOk P w K mg base CX0 2 T.f__law_cost T.fd__law_cost P__law_cost (sp__law_cost) := by
  have nd : N__law_cost.Nodup := sc__law_cost.nd
  refine T.F__law_cost.ok sc__law_cost (fun vs H Q E h => ?_) (fun cdv A outer s H vs Q E hr h => ?_)
  · obtain ⟨l, r, ps, a, v, rfl, _⟩ := h
    rfl
  · obtain ⟨l, r, ps, a, v, rfl, ha, ok, hpl, hv, hl, hp0, k⟩ := h
    refine ⟨_, (pss_cons (ps_asg (pe_tup (pa_cons pe_int (pa_cons (pv 0) pa_nil))) (pg_tup (n := 2) rfl (pgs_cons (by exact (pg_name (i := 3) nd rfl (Or.inl rfl))) (pgs_cons (by exact (pg_name (i := 4) nd rfl (Or.inr rfl))) pgs_nil))))
      (pss_cons (ps_for PassesOwn.never rfl (pi_list (pv 2)) (pg_name (i := 5) nd rfl (Or.inr rfl))
      (pss_cons (ps_set (i := 3) nd rfl (Or.inl rfl) (pe_op op_add (pv 3) (pe_callB (cr_sum rfl) (by rfl) T.z_sum (by decide +kernel) (pa_cons (pe_lc (own := [("_law_letter", 6), ("_law_price", 7)]) (hc := rfl) (hN := nd) (pi_list (pv 1)) (blkOk_by (N := N__law_cost) (sc := defScope s__law_cost) (by decide +kernel)) (fun _ _ _ _ _ => by exact (pg_tupK K (n := 2) rfl (pgs_cons (by exact (pg_name (i := 6) nd rfl (Or.inl rfl))) (pgs_cons (by exact (pg_name (i := 7) nd rfl (Or.inl rfl))) pgs_nil)))) (fun _ _ _ _ _ => by exact (pts_one (pt_cmpR op_eq (pv 6) (pe_item_str (pv 4) (pv 5) (fun _ _ => rfl)) (nomark _)))) (fun _ _ _ _ _ => by exact (pv 7))) pa_nil))))
      (pss_one (ps_set (i := 4) nd rfl (Or.inr rfl) (pe_call (ok__law_swapped T) (hr.mono (by decide)) rfl T.m__law_swapped T.F__law_swapped.kp T.b__law_swapped .nil pass0 (pa_cons (pv 4) (pa_cons (pv 5) pa_nil)))))))
      (pss_one (ps_ret (pv 3))))), ?_⟩
    refine ⟨_, rfl, (by show 2 ≤ sizeLine; decide), fun t ht => ⟨t, _, rfl, SqT.of upd_same, rfl, _, _, rfl, _, _, rfl, rfl, ?_⟩⟩
    have s1 := Same.upd (o := HO.tup [V.int 0, V.str (S l)]) ht
    generalize upd H t (.tup [V.int 0, V.str (S l)]) = H1 at s1
    refine ⟨_, rfl, v, rfl, ⟨_, SqL.of (s1 _ _ hv)⟩, for_list (K := K) (a := v) (xs := placesV r) (fun i σ H' => ∃ (w5 w6 w7 : Option V), σ = [some (.str (S l)), some (.ref a), some (.ref v), some (.int (costL ps l (r.take i))), some (.str (S (ends l (r.take i)))), w5, w6, w7] ∧ Same H H') ⟨none, none, none, rfl, s1⟩ (fun i σ H' _ ⟨_, _, _, _, s⟩ => SqL.of (s _ _ hv)) ?_ ?_⟩
    · rintro i y σ H2 hi ⟨w5, w6, w7, rfl, s2⟩
      obtain ⟨p, hp, rfl⟩ := place_of hi
      have hpl0 : p < l.length := hp0 p (List.mem_of_getElem? hp)
      have hel : (ends l (r.take i)).length = l.length := ends_len fun q hq => hp0 q (List.mem_of_mem_take hq)
      have hc : (ends l (r.take i))[p]? = some (ends l (r.take i))[p] := List.getElem?_eq_getElem (by omega)
      generalize (ends l (r.take i))[p] = c at hc
      obtain ⟨ts, hts, hpt⟩ := PricesAt.same s2 ha
      have tl := Sw.Paired.len hpt
      refine ⟨_, rfl, _, rfl, a, rfl, ⟨_, SqL.of hts⟩, fun D hD => ?_⟩
      refine lc_it walk_list (fun i H' => Same H2 H' ∧ H' D = some (.lst (((((ps.take i).filter fun q => decide (q.1 = c)).map (·.2))).map V.int))) ⟨Same.upd hD, by rw [upd_same]; rfl⟩ (fun i H' _ ⟨s, _⟩ => SqL.of (s _ _ hts)) ?_ ?_
      · rintro i2 x H3 H4 hi2 ⟨s3, d3⟩ ⟨rfl, hx⟩
        obtain ⟨q, hq, t2, rfl, ht2⟩ := Sw.Paired.at hpt hx
        refine ⟨t2, _, rfl, SqT.of (s3 _ _ ht2), rfl, _, _, rfl, _, _, rfl, rfl, rfl, ?_⟩
        refine ⟨_, rfl, _, rfl, _, rfl, S (ends l (r.take i)), p, c, rfl, rfl, by omega, by omega, by rw [len_S]; omega, by rw [Int.toNat_natCast, at_S]; exact hc, rfl, _, rfl, ?_⟩
        have hfl : ((ps.take i2).filter fun q => decide (q.1 = c)).length ≤ ps.length := Nat.le_trans (List.length_filter_le _ _) (by rw [List.length_take]; omega)
        refine ite2 (fun z => ?_) (fun z => ?_)
        · have z' : q.1 = c := S_one_inj (V.str.inj (of_decide_eq_true z))
          refine ⟨_, rfl, _, d3, ?_, fun b o e => ?_, ?_⟩
          · rw [List.length_map, List.length_map]; exact small_line (by omega)
          · rw [upd_ne (ne_of_none e hD)]; exact s3 b o e
          · rw [upd_same, take_snoc hq, List.filter_append]; simp [z']
        · have z' : ¬ q.1 = c := fun y => z (decide_eq_true (by rw [y]))
          refine ⟨s3, ?_⟩
          rw [d3, take_snoc hq, List.filter_append]
          simp [z']
      rintro H3 ⟨s3, d3⟩
      rw [tl, List.take_length] at d3
      refine ⟨D, _, rfl, SqL.of d3, _, _, rfl, rfl, ?_⟩
      rw [price_sum ok.2]
      refine ⟨_, rfl, _, rfl, ends l (r.take i), p, rfl, by rw [hel]; exact hl, by omega, ?_⟩
      rw [← ends_take hp]
      have e := cost_take (ps := ps) (l := l) hp
      rw [List.getD_eq_getElem?_getD, hc] at e
      have e' : costL ps l (r.take i) + priceAt ps c = costL ps l (r.take (i + 1)) := e.symm
      exact ⟨some (V.int (p : Nat)), w6, w7, by rw [← e']; rfl, s2.trans s3⟩
    rintro σ H2 ⟨w5, w6, w7, rfl, s2⟩
    rw [List.length_map, List.take_length]
    exact ⟨_, rfl, k _ s2⟩
/-! _is_letter_price -/
def sp__is_letter_price : Sp := fun vs H Q _ => ∃ (t : Addr) (c : Nat) (p : Int), vs = [.ref t] ∧ H t = some (.tup [.str (S [c]), .int p]) ∧ (97 ≤ c ∧ c ≤ 122) ∧ 1 ≤ p ∧ ∀ H', Same H H' → Q (.bl true) H'
theorem ok__is_letter_price (T : Txt K mg) : FnOk P w K mg base CX0 3 T.f__is_letter_price T.fd__is_letter_price P__is_letter_price (sp__is_letter_price) := by
  have nd : N__is_letter_price.Nodup := sc__is_letter_price.nd
  refine T.F__is_letter_price.ok sc__is_letter_price (fun vs H Q E h => ?_) (fun cdv A outer s H vs Q E hr h => ?_)
  · obtain ⟨t, c, p, rfl, _⟩ := h
    rfl
  · obtain ⟨t, c, p, rfl, ht, hc, hp, k⟩ := h
    refine ⟨_, (pss_cons (ps_if (PW.pt (pw_or (pt_not (pt_val (pe_callB call_isi (by rfl) T.z_isinstance (by decide +kernel) (pa_cons (pv 0) (pa_cons (pe_bltn (v := .ty "tuple") (by rfl) T.z_tuple (by decide +kernel) rfl) pa_nil))))) (pw_or1 (pt_cmpR op_ne (pe_callB call_len_seq (by rfl) T.z_len (by decide +kernel) (pa_cons (pv 0) pa_nil)) pe_int (nomark _))))) (pss_one (ps_ret pe_bl)) pss_nil)
      (pss_one (ps_ret (pe_and (pe_call (ok_is_letter T) (hr.mono (by decide)) rfl T.m_is_letter T.F_is_letter.kp T.b_is_letter .nil pass0 (pa_cons (pe_ix ix_tup (pv 0) pe_int (fun _ _ => rfl)) pa_nil)) (pe_and (pe_call (ok_is_count T) (hr.mono (by decide)) rfl T.m_is_count T.F_is_count.kp T.b_is_count .nil pass0 (pa_cons (pe_ix ix_tup (pv 0) pe_int (fun _ _ => rfl)) pa_nil)) (pe_one (pe_cmpR op_ge (pe_ix ix_tup (pv 0) pe_int (fun _ _ => rfl)) pe_int (nomark _)))))))), ?_⟩
    refine ⟨_, rfl, _, _, _, _, _, rfl, ClsV.ty "tuple", .base (.tup ht), kit_ty (by decide +kernel), true, rfl, iteF ?_⟩
    refine ⟨_, rfl, t, _, rfl, .inr (SqT.of ht), rfl, _, rfl, iteF ?_⟩
    refine ⟨_, rfl, t, _, _, _, rfl, rfl, SqT.of ht, rfl, c, rfl, hc, fun H1 s1 => ⟨_, rfl, iteT ?_⟩⟩
    refine ⟨_, rfl, t, _, _, _, rfl, rfl, SqT.of (s1 _ _ ht), rfl, p, rfl, _, rfl, ?_⟩
    rw [decide_eq_true (by omega : (0 : Int) ≤ p)]
    refine iteT ?_
    refine ⟨_, rfl, t, _, _, _, rfl, rfl, SqT.of (s1 _ _ ht), rfl, _, _, rfl, rfl, ?_⟩
    have e : Q (V.bl (decide (1 ≤ p))) H1 := by rw [decide_eq_true hp]; exact k _ s1
    exact e
/-! check_joints -/
def sp_check_joints : Sp := fun vs H Q _ => ∃ l : List Nat, vs = [.str (S l)] ∧ l.length ≤ 50000 ∧ jointsB l = true ∧ ∀ H', Same H H' → Q .non H'
theorem ok_check_joints (T : Txt K mg) : FnOk P w K mg base CX0 3 T.f_check_joints T.fd_check_joints P_check_joints (sp_check_joints) := by
  have nd : N_check_joints.Nodup := sc_check_joints.nd
  refine T.F_check_joints.ok sc_check_joints (fun vs H Q E h => ?_) (fun cdv A outer s H vs Q E hr h => ?_)
  · obtain ⟨l, rfl, _⟩ := h
    rfl
  · obtain ⟨l, rfl, hl, hw, k⟩ := h
    refine ⟨_, (pss_one (ps_if (pt_not (pt_val (pe_call (ok_is_joints T) (hr.mono (by decide)) rfl T.m_is_joints T.F_is_joints.kp T.b_is_joints .nil pass0 (pa_cons (pv 0) pa_nil)))) pss_never pss_nil)), ?_⟩
    refine ⟨_, rfl, l, rfl, hl, fun H1 s1 => ⟨_, rfl, ?_⟩⟩
    rw [hw]
    exact iteF (k _ s1)
/-! _walked -/
def sp__walked : Sp := fun vs H Q _ => ∃ (l js r : List Nat) (v : Addr), vs = [.str (S l), .str (S js), .ref v] ∧ H v = some (.lst (placesV r)) ∧ l.length ≤ 50000 ∧ r.length ≤ 50000 ∧ IsRoad js l r ∧ ∀ m H', H m = none → Same H H' → H' m = some (.lst (wordsV (pass l r))) → Q (.ref m) H'
theorem ok__walked (T : Txt K mg) : FnOk P w K mg base CX0 3 T.f__walked T.fd__walked P__walked (sp__walked) := by
  have nd : N__walked.Nodup := sc__walked.nd
  refine T.F__walked.ok sc__walked (fun vs H Q E h => ?_) (fun cdv A outer s H vs Q E hr h => ?_)
  · obtain ⟨l, js, r, v, rfl, _⟩ := h
    rfl
  · obtain ⟨l, js, r, v, rfl, hv, hl, hr2, ok, k⟩ := h
    refine ⟨_, (pss_cons (ps_if (pt_not (pt_val (pe_callB call_isi (by rfl) T.z_isinstance (by decide +kernel) (pa_cons (pv 2) (pa_cons (pe_bltn (v := .ty "list") (by rfl) T.z_list (by decide +kernel) rfl) pa_nil))))) (pss_one (ps_ret pe_non)) pss_nil)
      (pss_cons (ps_set (i := 3) nd rfl (Or.inl rfl) (pe_lst (pa_cons (pv 0) pa_nil)))
      (pss_cons (ps_for PassesOwn.never rfl (pi_list (pv 2)) (pg_name (i := 4) nd rfl (Or.inl rfl))
      (pss_cons (ps_if (pt_not (pt_val (pe_call (ok__is_open T) (hr.mono (by decide)) rfl T.m__is_open T.F__is_open.kp T.b__is_open .nil pass0 (pa_cons (pe_ix ix_list (pv 3) (pe_un un_neg pe_int) (fun _ _ => rfl)) (pa_cons (pv 1) (pa_cons (pv 4) pa_nil)))))) (pss_one (ps_ret pe_non)) pss_nil)
      (pss_one (ps_expr (pe_bm PySem.F.plainAttrs_list PySem.F.slot_list_append PySem.F.type_list_append mt_append (pv 3) (pa_cons (pe_call (ok_sides_changed T) (hr.mono (by decide)) rfl T.m_sides_changed T.F_sides_changed.kp T.b_sides_changed .nil pass0 (pa_cons (pe_ix ix_list (pv 3) (pe_un un_neg pe_int) (fun _ _ => rfl)) (pa_cons (pv 4) pa_nil))) pa_nil))))))
      (pss_one (ps_ret (pv 3)))))), ?_⟩
    refine ⟨_, rfl, _, _, _, _, _, rfl, ClsV.ty "list", .base (.lst hv), kit_ty (by decide +kernel), true, rfl, iteF ?_⟩
    refine ⟨_, rfl, (by show 1 ≤ sizeLine; decide), fun m hm => ?_⟩
    refine ⟨_, rfl, v, rfl, ⟨_, SqL.of (Same.upd hm _ _ hv)⟩, for_list (K := K) (a := v) (xs := placesV r) (fun i σ H' => ∃ pv : Option V, σ = [some (.str (S l)), some (.str (S js)), some (.ref v), some (.ref m), pv] ∧ Same H H' ∧ H' m = some (.lst (wordsV (pass l (r.take i))))) ⟨none, rfl, Same.upd hm, upd_same⟩ (fun i σ H' _ ⟨_, _, s, _⟩ => SqL.of (s _ _ hv)) ?_ ?_⟩
    · rintro i y σ H1 hi ⟨pv, rfl, s1, d1⟩
      obtain ⟨p, hp, rfl⟩ := place_of hi
      obtain ⟨c, hc, hcj⟩ := road_at ok hp
      have hil : i < r.length := (List.getElem?_eq_some_iff.mp hp).1
      have hel := ends_len (road_lt (road_take (i := i) ok))
      have hlast : atI (wordsV (pass l (r.take i))) (-1) = some (V.str (S (ends l (r.take i)))) := last_word rfl
      refine ⟨_, rfl, _, rfl, m, _, _, _, rfl, rfl, SqL.of d1, hlast, _, rfl, _, rfl, ends l (r.take i), js, p, c, rfl, by rw [hel]; exact hl, hc, _, rfl, ?_⟩
      rw [decide_eq_true hcj]
      refine iteF ?_
      refine ⟨_, rfl, .inl ⟨rfl, _, SqL.of d1⟩, _, rfl, _, rfl, m, _, _, _, rfl, rfl, SqL.of d1, hlast, _, rfl, ends l (r.take i), p, rfl, by rw [hel]; exact hl, (List.getElem?_eq_some_iff.mp hc).1, m, _, _, rfl, rfl, d1, ?_, ?_⟩
      · rw [List.length_map, pass_len, List.length_take]; exact small_line (by omega)
      refine ⟨_, rfl, fun b o e => ?_, ?_⟩
      · rw [upd_ne (ne_of_none e hm)]; exact s1 b o e
      · rw [upd_same, pass_take hp, ends_take hp]; simp [wordsV]
    rintro σ H1 ⟨pv, rfl, s1, d1⟩
    rw [List.length_map, List.take_length] at d1
    exact ⟨_, rfl, k m H1 hm s1 d1⟩
/-! _law_word -/
def sp__law_word : Sp := fun vs H Q _ => ∃ (g : Addr) (l : List Nat) (n b : Nat), vs = [.ref g, .str (S l), .int (n : Int)] ∧ GenAt H g b ∧ b + 10 * n ≤ 900000000 ∧ 0 < l.length ∧ l.length ≤ 50000 ∧ n ≤ 50000 ∧ ∀ (ws : List Nat) H', ws.length = n → (∀ c ∈ ws, c ∈ l) → But g H H' → GenAt H' g (b + 10 * n) → Q (.str (S ws)) H'
theorem ok__law_word (T : Txt K mg) : FnOk P w K mg base CX0 3 T.f__law_word T.fd__law_word P__law_word (sp__law_word) := by
  have nd : N__law_word.Nodup := sc__law_word.nd
  refine T.F__law_word.ok sc__law_word (fun vs H Q E h => ?_) (fun cdv A outer s H vs Q E hr h => ?_)
  · obtain ⟨g, l, n, b, rfl, _⟩ := h
    rfl
  · obtain ⟨g, l, n, b, rfl, G, hb, hl0, hl, hn, k⟩ := h
    refine ⟨_, (pss_one (ps_ret (pe_join pe_str (pe_lc (own := [("_law_turn", 3)]) (hc := rfl) (hN := nd) (pi_range1 rfl T.z_range (pa_cons (pv 2) pa_nil)) (blkOk_by (N := N__law_word) (sc := defScope s__law_word) (by decide +kernel)) (fun _ _ _ _ _ => by exact (pg_name (i := 3) nd rfl (Or.inl rfl))) (fun _ _ _ _ _ => by exact pts_nil) (fun _ _ _ _ _ => by exact (pe_item_str (pv 1) (pe_call (ok__law_random T) (hr.mono (by decide)) rfl T.m__law_random T.F__law_random.kp T.b__law_random .nil pass0 (pa_cons (pv 0) (pa_cons (pe_callB (call_lenK K) (by rfl) T.z_len (by decide +kernel) (pa_cons (pv 1) pa_nil)) pa_nil))) (fun _ _ => rfl))))))), ?_⟩
    refine ⟨⟨_, rfl⟩, _, rfl, _, rfl, by omega, by omega, fun D hD => ?_⟩
    rw [Int.toNat_natCast]
    refine lc_it walk_range (fun i H' => ∃ ws : List Nat, ws.length = i ∧ (∀ c ∈ ws, c ∈ l) ∧ But g H H' ∧ GenAt H' g (b + 10 * i) ∧ H' D = some (.lst ((ws.map fun c => S [c]).map V.str)))
      ⟨[], rfl, fun c h => (nomatch h), But.same (Same.upd hD), G.new hD, upd_same⟩ (fun _ _ _ _ => trivial) ?_ ?_
    · rintro i x H1 H2 hi ⟨ws, hlen, hm, b1, G1, d1⟩ ⟨rfl, rfl⟩
      have nD : D ≠ g := G.ne hD
      refine ⟨rfl, _, rfl, _, rfl, _, rfl, _, l.length, rfl, ⟨by rw [len_S]; exact small_le (by omega), by rw [len_S]⟩, ?_⟩
      refine ⟨g, _, b + 10 * i, rfl, G1, by omega, by omega, Nat.lt_of_le_of_lt (by omega : (l.length : Int).natAbs ≤ 50000) (by decide), fun r H3 r0 r1 b3 G3 => ?_⟩
      have hr : r.toNat < l.length := by omega
      refine ⟨S l, r, l[r.toNat], rfl, rfl, r0, by omega, by rw [len_S]; omega, by rw [at_S]; exact List.getElem?_eq_getElem hr, ?_⟩
      refine ⟨_, b3 _ _ nD d1, ?_, ws ++ [l[r.toNat]], by simp [hlen], ?_, ?_, ?_, ?_⟩
      · rw [List.length_map, List.length_map, hlen]; exact small_line (by omega)
      · intro c hc
        rcases List.mem_append.mp hc with hc | hc
        · exact hm c hc
        · rw [List.mem_singleton.mp hc]; exact List.getElem_mem hr
      · exact fun c o ne e => by rw [upd_ne (ne_of_none e hD)]; exact (b1.trans b3) c o ne e
      · obtain ⟨x, y, z, g0, hx⟩ := G3
        exact ⟨x, y, z, by rw [upd_ne nD.symm]; exact g0, hx.1, hx.2.1, by omega, by omega⟩
      · rw [upd_same]; simp
    · rintro H1 ⟨ws, hlen, hm, b1, G1, d1⟩
      refine ⟨_, D, ws.map fun c => S [c], rfl, rfl, .inl (SqL.of d1), ?_, ?_⟩
      · exact join_bound (by omega)
      · rw [join_signs]
        exact k ws H1 hlen hm b1 G1
/-! _law_letters -/
def sp__law_letters : Sp := fun vs H Q _ => ∃ (g : Addr) (a m b : Nat), vs = [.ref g, .int (a : Int), .int (m : Int)] ∧ GenAt H g b ∧ b ≤ 800000000 ∧ a ≤ m ∧ m ≤ 8 ∧ ∀ (l : List Nat) H', a ≤ l.length → l.length ≤ m → l.Pairwise (· < ·) → (∀ c ∈ l, 97 ≤ c ∧ c ≤ 122) → But g H H' → GenAt H' g (b + 100) → Q (.str (S l)) H'
theorem ok__law_letters (T : Txt K mg) : FnOk P w K mg base CX0 3 T.f__law_letters T.fd__law_letters P__law_letters (sp__law_letters) := by
  have nd : N__law_letters.Nodup := sc__law_letters.nd
  refine T.F__law_letters.ok sc__law_letters (fun vs H Q E h => ?_) (fun cdv A outer s H vs Q E hr h => ?_)
  · obtain ⟨g, a, m, b, rfl, _⟩ := h
    rfl
  · obtain ⟨g, a, m, b, rfl, G, hb, ham, hm, k⟩ := h
    refine ⟨_, (pss_cons (ps_par3 (i := 3) (j := 4) (l := 5) rfl nd rfl rfl rfl (by decide) (by decide) (by decide) rfl rfl rfl (pa_cons (pe_op op_add (pv 1) (pe_call (ok__law_random T) (hr.mono (by decide)) rfl T.m__law_random T.F__law_random.kp T.b__law_random .nil pass0 (pa_cons (pv 0) (pa_cons (pe_op op_add (pe_op op_sub (pv 2) (pv 1)) pe_int) pa_nil)))) (pa_cons pe_str (pa_cons (pe_op op_sub pe_int pe_int) pa_nil))) (by rfl))
      (pss_cons (ps_for PassesOwn.never rfl (pi_range1 rfl T.z_range (pa_cons (pv 3) pa_nil)) (pg_name (i := 6) nd rfl (Or.inl rfl))
      (pss_cons (ps_set (i := 5) nd rfl (Or.inl rfl) (pe_op op_add (pe_op op_add (pv 5) pe_int) (pe_call (ok__law_random T) (hr.mono (by decide)) rfl T.m__law_random T.F__law_random.kp T.b__law_random .nil pass0 (pa_cons (pv 0) (pa_cons pe_int pa_nil)))))
      (pss_one (ps_set (i := 4) nd rfl (Or.inl rfl) (pe_op op_add_str (pv 4) (pe_item_str pe_str (pv 5) (fun _ _ => rfl)))))))
      (pss_one (ps_ret (pv 4))))), ?_⟩
    refine ⟨_, rfl, _, rfl, _, rfl, _, rfl, _, _, rfl, rfl, _, _, rfl, rfl, g, _, b, rfl, G, by omega, by omega, Nat.lt_of_le_of_lt (by omega : ((m : Int) - (a : Int) + 1).natAbs ≤ 9) (by decide), fun r H1 r0 r1 b1 G1 => ?_⟩
    refine ⟨_, _, rfl, rfl, _, _, rfl, rfl, _, _, _, rfl, ?_⟩
    refine ⟨_, rfl, _, rfl, by omega, by omega, ?_⟩
    refine for_range (lo := 0) (n := ((a : Int) + r).toNat) (fun i σ H' => ∃ (l : List Nat) (st : Int) (v : Option V), σ = [some (.ref g), some (.int (a : Int)), some (.int (m : Int)), some (.int ((a : Int) + r)), some (.str (S l)), some (.int st), v] ∧ l.length = i ∧ -1 ≤ st ∧ st ≤ 3 * (i : Int) - 1 ∧ l.Pairwise (· < ·) ∧ (∀ c ∈ l, 97 ≤ c ∧ (c : Int) ≤ 97 + st) ∧ But g H H' ∧ GenAt H' g (b + 10 + 10 * i))
      ⟨[], -1, none, rfl, rfl, by omega, by omega, List.Pairwise.nil, fun c h => (nomatch h), b1, G1⟩ ?_ ?_
    · rintro i σ H2 hi ⟨l, st, v, rfl, hl, s0, s1, hp, hc, b2, G2⟩
      refine ⟨_, rfl, _, _, rfl, rfl, _, rfl, g, 3, b + 10 + 10 * i, rfl, G2, by omega, by decide, by decide, fun q H3 q0 q1 b3 G3 => ?_⟩
      refine ⟨_, _, rfl, rfl, ?_⟩
      have hx : (st + 1 + q).toNat < 26 := by omega
      refine ⟨_, rfl, _, rfl, _, _, 97 + (st + 1 + q).toNat, rfl, rfl, by omega, by omega, by rw [alpha_len]; omega, alpha_at _ hx, ?_⟩
      refine ⟨_, S [97 + (st + 1 + q).toNat], rfl, rfl, ?_, ?_⟩
      · rw [len_S, len_S]; exact small_le (by simp; omega)
      rw [SX.S_cat]
      refine ⟨l ++ [97 + (st + 1 + q).toNat], st + 1 + q, _, rfl, by simp [hl], by omega, by omega, ?_, ?_, b2.trans b3, G3.mono (by omega)⟩
      · refine List.pairwise_append.mpr ⟨hp, List.pairwise_singleton _ _, fun c h d h' => ?_⟩
        rw [List.mem_singleton.mp h']
        have := (hc c h).2
        omega
      · intro c h
        rcases List.mem_append.mp h with h | h
        · have := hc c h
          omega
        · rw [List.mem_singleton.mp h]
          omega
    · rintro σ H2 ⟨l, st, v, rfl, hl, s0, s1, hp, hc, b2, G2⟩
      exact ⟨_, rfl, k l H2 (by omega) (by omega) hp (fun c h => ⟨(hc c h).1, by have := (hc c h).2; omega⟩) b2 (G2.mono (by omega))⟩
/-! _law_joints -/
def sp__law_joints : Sp := fun vs H Q _ => ∃ (g : Addr) (l : List Nat) (b : Nat), vs = [.ref g, .str (S l)] ∧ GenAt H g b ∧ b + 10 * l.length ≤ 900000000 ∧ l.length ≤ 50000 ∧ ∀ (js : List Nat) H', js.Sublist l → But g H H' → GenAt H' g (b + 10 * l.length) → Q (.str (S js)) H'
theorem ok__law_joints (T : Txt K mg) : FnOk P w K mg base CX0 3 T.f__law_joints T.fd__law_joints P__law_joints (sp__law_joints) := by
  have nd : N__law_joints.Nodup := sc__law_joints.nd
  refine T.F__law_joints.ok sc__law_joints (fun vs H Q E h => ?_) (fun cdv A outer s H vs Q E hr h => ?_)
  · obtain ⟨g, l, b, rfl, _⟩ := h
    rfl
  · obtain ⟨g, l, b, rfl, G, hb, hl, k⟩ := h
    refine ⟨_, (pss_one (ps_ret (pe_join pe_str (pe_lc (own := [("_law_letter", 2)]) (hc := rfl) (hN := nd) (pi_str (pv 1)) (blkOk_by (N := N__law_joints) (sc := defScope s__law_joints) (by decide +kernel)) (fun _ _ _ _ _ => by exact (pg_name (i := 2) nd rfl (Or.inl rfl))) (fun _ _ _ _ _ => by exact (pts_one (pt_cmpR op_eq (pe_call (ok__law_random T) (hr.mono (by decide)) rfl T.m__law_random T.F__law_random.kp T.b__law_random .nil pass0 (pa_cons (pv 0) (pa_cons pe_int pa_nil))) pe_int (nomark _)))) (fun _ _ _ _ _ => by exact (pv 2)))))), ?_⟩
    refine ⟨⟨_, rfl⟩, _, rfl, _, rfl, fun D hD => ?_⟩
    refine lc_it walk_str (fun i H' => ∃ js : List Nat, js.Sublist (l.take i) ∧ But g H H' ∧ GenAt H' g (b + 10 * i) ∧ H' D = some (.lst ((js.map fun c => S [c]).map V.str)))
      ⟨[], List.nil_sublist _, But.same (Same.upd hD), G.new hD, upd_same⟩ (fun _ _ _ _ => trivial) ?_ ?_
    · rintro i x H1 H2 hi ⟨js, hs, b1, G1, d1⟩ ⟨rfl, c, hc, rfl⟩
      rw [at_S] at hc
      rw [size_S] at hi
      have nD : D ≠ g := G.ne hD
      refine ⟨rfl, _, rfl, g, _, b + 10 * i, rfl, G1, by omega, by decide, by decide, fun r H3 r0 r1 b3 G3 => ?_⟩
      have hs2 : (l.take i ++ [c]) = l.take (i + 1) := (take_snoc hc).symm
      refine ⟨rfl, _, rfl, ite2 (fun q => ?_) (fun q => ?_)⟩
      · refine ⟨_, rfl, _, b3 _ _ nD d1, ?_, js ++ [c], ?_, ?_, ?_, ?_⟩
        · have := hs.length_le
          rw [List.length_take] at this
          rw [List.length_map, List.length_map]; exact small_line (by omega)
        · rw [← hs2]; exact hs.append (List.Sublist.refl _)
        · exact fun c o ne e => by rw [upd_ne (ne_of_none e hD)]; exact (b1.trans b3) c o ne e
        · obtain ⟨x, y, z, g0, hx⟩ := G3
          exact ⟨x, y, z, by rw [upd_ne nD.symm]; exact g0, hx.1, hx.2.1, by omega, by omega⟩
        · rw [upd_same]; simp
      · exact ⟨js, by rw [← hs2]; exact hs.trans (List.sublist_append_left _ _), b1.trans b3, G3.mono (by omega), b3 _ _ nD d1⟩
    · rintro H1 ⟨js, hs, b1, G1, d1⟩
      rw [size_S, List.take_length] at hs
      rw [size_S] at G1
      refine ⟨_, D, js.map fun c => S [c], rfl, rfl, .inl (SqL.of d1), ?_, ?_⟩
      · have := hs.length_le
        exact join_bound (by omega)
      · rw [join_signs]
        exact k js H1 hs b1 G1
/-! _law_road -/
def sp__law_road : Sp := fun vs H Q _ => ∃ (g : Addr) (l js : List Nat) (n b : Nat), vs = [.ref g, .str (S l), .str (S js), .int (n : Int)] ∧ GenAt H g b ∧ b + 10 * n ≤ 900000000 ∧ l.length ≤ 50000 ∧ n ≤ 50000 ∧ ∀ (r : List Nat) (v : Addr) H', IsRoad js l r → r.length ≤ n → H v = none → But g H H' → GenAt H' g (b + 10 * n) → H' v = some (.lst (placesV r)) → Q (.ref v) H'
theorem ok__law_road (T : Txt K mg) : FnOk P w K mg base CX0 3 T.f__law_road T.fd__law_road P__law_road (sp__law_road) := by
  have nd : N__law_road.Nodup := sc__law_road.nd
  refine T.F__law_road.ok sc__law_road (fun vs H Q E h => ?_) (fun cdv A outer s H vs Q E hr h => ?_)
  · obtain ⟨g, l, js, n, b, rfl, _⟩ := h
    rfl
  · obtain ⟨g, l, js, n, b, rfl, G, hb, hl, hn, k⟩ := h
    refine ⟨_, (pss_cons (ps_asg (pe_tup (pa_cons (pe_lst pa_nil) (pa_cons (pv 1) pa_nil))) (pg_tup (n := 2) rfl (pgs_cons (by exact (pg_name (i := 4) nd rfl (Or.inl rfl))) (pgs_cons (by exact (pg_name (i := 5) nd rfl (Or.inr rfl))) pgs_nil))))
      (pss_cons (ps_for PassesOwn.never rfl (pi_range1 rfl T.z_range (pa_cons (pv 3) pa_nil)) (pg_name (i := 6) nd rfl (Or.inl rfl))
      (pss_cons (ps_setLc (i := 7) (own := [("_law_place", 8)]) rfl nd rfl rfl (sw_true rfl rfl rfl (by decide +kernel)) (pi_range1 rfl T.z_range (pa_cons (pe_callB call_len (by rfl) T.z_len (by decide +kernel) (pa_cons (pv 5) pa_nil)) pa_nil)) (blkOk_by (N := N__law_road) (sc := defScope s__law_road) (by decide +kernel)) (fun _ _ _ _ _ => by exact (pg_name (i := 8) nd rfl (Or.inl rfl))) (fun _ _ _ _ _ => by exact (pts_one (pt_cmpR op_in_sign (pe_item_str (pv 5) (pv 8) (fun _ _ => rfl)) (pv 2) rfl))) (fun _ _ _ _ _ => by exact (pv 8)))
      (pss_one (ps_if (pt_cmpR (op_neD hr.units) (pv 7) (pe_lst pa_nil) (nomark _)) (pss_cons (ps_expr (pe_bm PySem.F.plainAttrs_list PySem.F.slot_list_append PySem.F.type_list_append mt_append (pv 4) (pa_cons (pe_ix ix_list (pv 7) (pe_call (ok__law_random T) (hr.mono (by decide)) rfl T.m__law_random T.F__law_random.kp T.b__law_random .nil pass0 (pa_cons (pv 0) (pa_cons (pe_callB call_len_seq (by rfl) T.z_len (by decide +kernel) (pa_cons (pv 7) pa_nil)) pa_nil))) (fun _ _ => rfl)) pa_nil)))
      (pss_one (ps_set (i := 5) nd rfl (Or.inr rfl) (pe_call (ok__law_swapped T) (hr.mono (by decide)) rfl T.m__law_swapped T.F__law_swapped.kp T.b__law_swapped .nil pass0 (pa_cons (pv 5) (pa_cons (pe_ix ix_list (pv 4) (pe_op op_sub (pe_callB call_len_seq (by rfl) T.z_len (by decide +kernel) (pa_cons (pv 4) pa_nil)) pe_int) (fun _ _ => rfl)) pa_nil)))))) pss_nil))))
      (pss_one (ps_ret (pv 4))))), ?_⟩
    refine ⟨(by show 0 ≤ sizeLine; decide), fun v hv => ⟨_, rfl, (by show 2 ≤ sizeLine; decide), fun t ht => ?_⟩⟩
    have nvt : v ≠ t := ne_of_none upd_same ht
    have nvg : v ≠ g := G.ne hv
    have s1 := (Same.upd (o := HO.lst []) hv).trans (Same.upd (o := HO.tup [V.ref v, V.str (S l)]) ht)
    refine ⟨t, _, rfl, SqT.of upd_same, rfl, _, _, rfl, _, _, rfl, rfl, ?_⟩
    have d1 : (upd (upd H v (.lst [])) t (.tup [V.ref v, V.str (S l)])) v = some (.lst (placesV [])) := by rw [upd_ne nvt]; exact upd_same
    generalize upd (upd H v (.lst [])) t (.tup [V.ref v, V.str (S l)]) = H1 at s1 d1
    refine ⟨_, rfl, _, rfl, by omega, by omega, ?_⟩
    rw [Int.toNat_natCast]
    refine for_range (lo := 0) (n := n) (fun i σ H' => ∃ (r : List Nat) (w1 w2 w3 : Option V), σ = [some (.ref g), some (.str (S l)), some (.str (S js)), some (.int (n : Nat)), some (.ref v), some (.str (S (ends l r))), w1, w2, w3] ∧ IsRoad js l r ∧ r.length ≤ i ∧ But g H H' ∧ GenAt H' g (b + 10 * i) ∧ H' v = some (.lst (placesV r))) ⟨[], none, none, none, rfl, trivial, Nat.le_refl _, But.same s1, G.same s1, d1⟩ ?_ ?_
    · rintro i σ H2 hi ⟨r, w1, w2, w3, rfl, rd, hrl, b2, G2, d2⟩
      have hel : (ends l r).length = l.length := ends_len (road_lt rd)
      refine ⟨_, rfl, _, l.length, rfl, ⟨by rw [len_S, hel]; exact small_le (by omega), by rw [len_S, hel]⟩, _, rfl, by omega, by omega, fun D hD => ?_⟩
      rw [Int.toNat_natCast]
      refine lc_it walk_range (fun i H' => Same H2 H' ∧ H' D = some (.lst (placesV (openL ((ends l r).take i) js)))) ⟨Same.upd hD, upd_same⟩ (fun _ _ _ _ => trivial) ?_ ?_
      · rintro i2 x H8 H9 hi2 ⟨s8, d8⟩ ⟨rfl, rfl⟩
        have hi' : i2 < (ends l r).length := by omega
        have hci : (ends l r)[i2]? = some (ends l r)[i2] := List.getElem?_eq_getElem hi'
        have ee := openL_snoc js hci
        have hol := openL_len ((ends l r).take i2) js
        refine ⟨rfl, _, rfl, _, rfl, S (ends l r), _, (ends l r)[i2], rfl, rfl, by omega, by omega, by rw [len_S]; omega, by rw [at_S, show ((0 : Int) + (i2 : Nat)).toNat = i2 by omega]; exact hci, ?_⟩
        refine ⟨_, rfl, _, S js, rfl, rfl, _, rfl, ite2 (fun z => ?_) (fun z => ?_)⟩
        · rw [if_pos (of_decide_eq_true z)] at ee
          refine ⟨_, rfl, _, d8, ?_, fun b o e => ?_, ?_⟩
          · rw [List.length_map]; rw [List.length_take] at hol; exact small_line (by omega)
          · rw [upd_ne (ne_of_none e hD)]; exact s8 b o e
          · rw [upd_same, ee]; simp [placesV]
        · rw [if_neg (fun q => z (decide_eq_true q))] at ee
          exact ⟨s8, by rw [d8, ee]; simp [placesV]⟩
      rintro H3 ⟨s3, d3⟩
      rw [← hel, List.take_length] at d3
      have hol := openL_len (ends l r) js
      refine ⟨_, rfl, (by show 0 ≤ sizeLine; decide), fun p hp => ?_⟩
      have s4 : Same H2 (upd H3 p (.lst [])) := s3.trans (Same.upd hp)
      have d4 := Same.upd (o := HO.lst []) hp _ _ d3
      have hpe : (upd H3 p (.lst [])) p = some (.lst []) := upd_same
      generalize upd H3 p (.lst []) = H4 at s4 d4 hpe
      refine places_ne_nil (SqL.of d4) (SqL.of hpe) ⟨_, rfl, ite2 (fun z => ?_) (fun z => ?_)⟩
      · have hpos : 0 < (openL (ends l r) js).length := by
          cases e : openL (ends l r) js with
          | nil => rw [e] at z; cases z
          | cons _ _ => simp
        have G4 := G2.same s4
        have nDg : D ≠ g := G2.ne hD
        refine ⟨_, rfl, .inl ⟨rfl, _, SqL.of (s4 _ _ d2)⟩, _, rfl, _, rfl, _, rfl, D, _, rfl, .inl (SqL.of d4), ?_⟩
        refine ⟨g, _, b + 10 * i, rfl, G4, by omega, by rw [List.length_map]; omega, Nat.lt_of_le_of_lt (by rw [List.length_map]; omega : (((placesV (openL (ends l r) js)).length : Nat) : Int).natAbs ≤ 50000) (by decide), fun q H5 q0 q1 b5 G5 => ?_⟩
        rw [List.length_map] at q1
        have hq : q.toNat < (openL (ends l r) js).length := by omega
        generalize hp0 : (openL (ends l r) js)[q.toNat] = p0
        have hm0 : p0 ∈ openL (ends l r) js := by rw [← hp0]; exact List.getElem_mem hq
        obtain ⟨c, hc, hcj⟩ := mem_openL hm0
        have hpl : p0 < (ends l r).length := (List.getElem?_eq_some_iff.mp hc).1
        refine ⟨D, _, _, V.int (p0 : Nat), rfl, rfl, SqL.of (b5 _ _ nDg d4), at_of (j := q.toNat) (by omega) (by rw [List.getElem?_map, List.getElem?_eq_getElem hq, hp0]; rfl), ?_⟩
        have d5 := b5 _ _ nvg (s4 _ _ d2)
        refine ⟨v, _, _, rfl, rfl, d5, by rw [List.length_map]; exact small_line (by omega), ?_⟩
        have d6 : (upd H5 v (.lst (placesV r ++ [V.int (p0 : Nat)]))) v = some (.lst (placesV (r ++ [p0]))) := by rw [upd_same]; simp [placesV]
        have G6 : GenAt (upd H5 v (.lst (placesV r ++ [V.int (p0 : Nat)]))) g (b + 10 * (i + 1)) := by
          obtain ⟨x, y, z, g0, hx⟩ := G5
          exact ⟨x, y, z, by rw [upd_ne nvg.symm]; exact g0, hx.1, hx.2.1, by omega, by omega⟩
        have b6 : But g H (upd H5 v (.lst (placesV r ++ [V.int (p0 : Nat)]))) := fun a o ne e => by
          rw [upd_ne (ne_of_none e hv)]
          exact (b2.trans ((But.same s4).trans b5)) a o ne e
        generalize upd H5 v (.lst (placesV r ++ [V.int (p0 : Nat)])) = H6 at d6 G6 b6
        refine ⟨_, rfl, _, rfl, _, rfl, v, _, rfl, .inl (SqL.of d6), _, _, rfl, rfl, v, _, _, V.int (p0 : Nat), rfl, rfl, SqL.of d6, at_of (j := r.length) (by rw [List.length_map, List.length_append]; simp) (by simp [placesV]), ?_⟩
        refine ⟨ends l r, p0, rfl, by rw [hel]; exact hl, hpl, ?_⟩
        rw [← ends_snoc]
        exact ⟨r ++ [p0], _, _, _, rfl, road_append.mpr ⟨rd, ⟨c, hc, hcj⟩, trivial⟩, by simp; omega, b6, G6, d6⟩
      · exact ⟨r, _, _, _, rfl, rd, by omega, b2.trans (But.same s4), (G2.same s4).mono (by omega), s4 _ _ d2⟩
    rintro σ H2 ⟨r, w1, w2, w3, rfl, rd, hrl, b2, G2, d2⟩
    exact ⟨_, rfl, k r v H2 rd hrl hv b2 G2 d2⟩
/-! is_prices -/
def sp_is_prices : Sp := fun vs H Q _ => ∃ (a : Addr) (ps : List (Nat × Int)), vs = [.ref a] ∧ PricesAt H a ps ∧ PricesOk ps ∧ ps.length ≤ 50000 ∧ ∀ H', Same H H' → Q (.bl true) H'
theorem ok_is_prices (T : Txt K mg) : FnOk P w K mg base CX0 4 T.f_is_prices T.fd_is_prices P_is_prices (sp_is_prices) := by
  have nd : N_is_prices.Nodup := sc_is_prices.nd
  refine T.F_is_prices.ok sc_is_prices (fun vs H Q E h => ?_) (fun cdv A outer s H vs Q E hr h => ?_)
  · obtain ⟨a, ps, rfl, _⟩ := h
    rfl
  · obtain ⟨a, ps, rfl, ⟨ts, ha, ht⟩, ok, hl, k⟩ := h
    have tl := Sw.Paired.len ht
    refine ⟨_, (pss_cons (ps_if (PW.pt (pw_or (pt_not (pt_val (pe_callB call_isi (by rfl) T.z_isinstance (by decide +kernel) (pa_cons (pv 0) (pa_cons (pe_bltn (v := .ty "list") (by rfl) T.z_list (by decide +kernel) rfl) pa_nil))))) (pw_or1 (pt_not (pt_val (pe_callB (cr_all rfl) (by rfl) T.z_all (by decide +kernel) (pa_cons (pe_lc (own := [("item", 1)]) (hc := rfl) (hN := nd) (pi_list (pv 0)) (blkOk_by (N := N_is_prices) (sc := defScope s_is_prices) (by decide +kernel)) (fun _ _ _ _ _ => by exact (pg_name (i := 1) nd rfl (Or.inl rfl))) (fun _ _ _ _ _ => by exact pts_nil) (fun _ _ _ _ _ => by exact (pe_call (ok__is_letter_price T) (hr.mono (by decide)) rfl T.m__is_letter_price T.F__is_letter_price.kp T.b__is_letter_price .nil pass0 (pa_cons (pv 1) pa_nil)))) pa_nil))))))) (pss_one (ps_ret pe_bl)) pss_nil)
      (pss_one (ps_ret (pe_call (ok__ascends_list T) (hr.mono (by decide)) rfl T.m__ascends T.F__ascends.kp T.b__ascends .nil pass0 (pa_cons (pe_lc (own := [("item", 1)]) (hc := rfl) (hN := nd) (pi_list (pv 0)) (blkOk_by (N := N_is_prices) (sc := defScope s_is_prices) (by decide +kernel)) (fun _ _ _ _ _ => by exact (pg_name (i := 1) nd rfl (Or.inl rfl))) (fun _ _ _ _ _ => by exact pts_nil) (fun _ _ _ _ _ => by exact (pe_ix (ix_tupK K) (pv 1) pe_int (fun _ _ => rfl)))) pa_nil))))), ?_⟩
    refine ⟨_, rfl, _, _, _, _, _, rfl, ClsV.ty "list", .base (.lst ha), kit_ty (by decide +kernel), true, rfl, iteF ?_⟩
    refine ⟨_, rfl, a, rfl, ⟨_, SqL.of ha⟩, fun D hD => ?_⟩
    refine lc_it walk_list (fun i H' => Same H H' ∧ H' D = some (.lst ((List.replicate i true).map V.bl))) ⟨Same.upd hD, by rw [upd_same]; rfl⟩ (fun i H' _ ⟨s, _⟩ => SqL.of (s _ _ ha)) ?_ ?_
    · rintro i x H1 H2 hi ⟨s1, d1⟩ ⟨rfl, hx⟩
      obtain ⟨q, hq, t, rfl, ht2⟩ := Sw.Paired.at ht hx
      have okq := ok.1 q (List.mem_of_getElem? hq)
      refine ⟨rfl, _, rfl, t, q.1, q.2, rfl, s1 _ _ ht2, okq.1, okq.2, fun H3 s3 => ?_⟩
      refine ⟨_, s3 _ _ d1, ?_, fun b o e => ?_, ?_⟩
      · rw [List.length_map, List.length_replicate]; exact small_line (by omega)
      · rw [upd_ne (ne_of_none e hD)]; exact s3 _ _ (s1 b o e)
      · rw [upd_same, List.replicate_succ']; simp
    rintro H1 ⟨s1, d1⟩
    refine ⟨D, _, rfl, SqL.of d1, true, ?_, iteF ?_⟩
    · have e : (List.replicate ts.length true).all id = true := List.all_eq_true.mpr fun x hx => (List.mem_replicate.mp hx).2
      rw [e]
    refine ⟨_, rfl, a, rfl, ⟨_, SqL.of (s1 _ _ ha)⟩, fun D2 hD2 => ?_⟩
    refine lc_it walk_list (fun i H' => Same H1 H' ∧ H' D2 = some (.lst (((((ps.take i).map (·.1)).map fun c => S [c])).map V.str))) ⟨Same.upd hD2, by rw [upd_same]; rfl⟩ (fun i H' _ ⟨s, _⟩ => SqL.of (s _ _ (s1 _ _ ha))) ?_ ?_
    · rintro i x H2 H3 hi ⟨s2, d2⟩ ⟨rfl, hx⟩
      obtain ⟨q, hq, t, rfl, ht2⟩ := Sw.Paired.at ht hx
      refine ⟨rfl, _, rfl, t, _, _, _, rfl, rfl, SqT.of (s2 _ _ (s1 _ _ ht2)), rfl, ?_⟩
      refine ⟨_, d2, ?_, fun b o e => ?_, ?_⟩
      · rw [List.length_map, List.length_map, List.length_map, List.length_take]; exact small_line (by omega)
      · rw [upd_ne (ne_of_none e hD2)]; exact s2 b o e
      · rw [upd_same, take_snoc hq]; simp
    rintro H2 ⟨s2, d2⟩
    rw [tl, List.take_length] at d2
    refine ⟨D2, ps.map (·.1), rfl, d2, by rw [List.length_map]; exact hl, fun H3 s3 => ?_⟩
    rw [ascB_of ok.2]
    exact k _ (s1.trans (s2.trans s3))
/-! passed -/
def sp_passed : Sp := fun vs H Q _ => ∃ (l js r : List Nat) (v : Addr), vs = [.str (S l), .str (S js), .ref v] ∧ H v = some (.lst (placesV r)) ∧ l.length ≤ 50000 ∧ wordB l = true ∧ js.length ≤ 50000 ∧ jointsB js = true ∧ r.length ≤ 50000 ∧ IsRoad js l r ∧ ∀ m H', H m = none → Same H H' → H' m = some (.lst (wordsV (pass l r))) → Q (.ref m) H'
theorem ok_passed (T : Txt K mg) : FnOk P w K mg base CX0 4 T.f_passed T.fd_passed P_passed (sp_passed) := by
  have nd : N_passed.Nodup := sc_passed.nd
  refine T.F_passed.ok sc_passed (fun vs H Q E h => ?_) (fun cdv A outer s H vs Q E hr h => ?_)
  · obtain ⟨l, js, r, v, rfl, _⟩ := h
    rfl
  · obtain ⟨l, js, r, v, rfl, hv, hl, hw, hjl, hj, hr2, ok, k⟩ := h
    refine ⟨_, (pss_cons (ps_expr (pe_call (ok_check_word T) (hr.mono (by decide)) rfl T.m_check_word T.F_check_word.kp T.b_check_word .nil pass0 (pa_cons (pv 0) pa_nil)))
      (pss_cons (ps_expr (pe_call (ok_check_joints T) (hr.mono (by decide)) rfl T.m_check_joints T.F_check_joints.kp T.b_check_joints .nil pass0 (pa_cons (pv 1) pa_nil)))
      (pss_cons (ps_set (i := 3) nd rfl (Or.inl rfl) (pe_call (ok__walked T) (hr.mono (by decide)) rfl T.m__walked T.F__walked.kp T.b__walked .nil pass0 (pa_cons (pv 0) (pa_cons (pv 1) (pa_cons (pv 2) pa_nil)))))
      (pss_cons (ps_if (pt_cmpR op_isN (pv 3) pe_non (nomark _)) pss_never pss_nil)
      (pss_one (ps_ret (pv 3))))))), ?_⟩
    refine ⟨_, rfl, l, rfl, hl, hw, fun H1 s1 => ⟨_, rfl, js, rfl, hjl, hj, fun H2 s2 => ?_⟩⟩
    have s12 := s1.trans s2
    refine ⟨_, rfl, _, rfl, _, rfl, l, js, r, v, rfl, s12 _ _ hv, hl, hr2, ok, fun m H3 hm s3 d3 => ?_⟩
    refine ⟨_, rfl, rfl, _, rfl, iteF ?_⟩
    exact ⟨_, rfl, k m H3 (s12.free hm) (s12.trans s3) d3⟩
/-! check_prices -/
def sp_check_prices : Sp := fun vs H Q _ => ∃ (a : Addr) (ps : List (Nat × Int)), vs = [.ref a] ∧ PricesAt H a ps ∧ PricesOk ps ∧ ps.length ≤ 50000 ∧ ∀ H', Same H H' → Q .non H'
theorem ok_check_prices (T : Txt K mg) : FnOk P w K mg base CX0 5 T.f_check_prices T.fd_check_prices P_check_prices (sp_check_prices) := by
  have nd : N_check_prices.Nodup := sc_check_prices.nd
  refine T.F_check_prices.ok sc_check_prices (fun vs H Q E h => ?_) (fun cdv A outer s H vs Q E hr h => ?_)
  · obtain ⟨a, ps, rfl, _⟩ := h
    rfl
  · obtain ⟨a, ps, rfl, ha, ok, hl, k⟩ := h
    refine ⟨_, (pss_one (ps_if (pt_not (pt_val (pe_call (ok_is_prices T) (hr.mono (by decide)) rfl T.m_is_prices T.F_is_prices.kp T.b_is_prices .nil pass0 (pa_cons (pv 0) pa_nil)))) pss_never pss_nil)), ?_⟩
    exact ⟨_, rfl, a, ps, rfl, ha, ok, hl, fun H1 s1 => ⟨_, rfl, iteF (k _ s1)⟩⟩
/-! done -/
def sp_done : Sp := fun vs H Q _ => ∃ (l js r : List Nat) (v : Addr), vs = [.str (S l), .str (S js), .ref v] ∧ H v = some (.lst (placesV r)) ∧ l.length ≤ 50000 ∧ wordB l = true ∧ js.length ≤ 50000 ∧ jointsB js = true ∧ r.length ≤ 50000 ∧ IsRoad js l r ∧ ∀ H', Same H H' → Q (.str (S (ends l r))) H'
theorem ok_done (T : Txt K mg) : FnOk P w K mg base CX0 5 T.f_done T.fd_done P_done (sp_done) := by
  have nd : N_done.Nodup := sc_done.nd
  refine T.F_done.ok sc_done (fun vs H Q E h => ?_) (fun cdv A outer s H vs Q E hr h => ?_)
  · obtain ⟨l, js, r, v, rfl, _⟩ := h
    rfl
  · obtain ⟨l, js, r, v, rfl, hv, hl, hw, hjl, hj, hr2, ok, k⟩ := h
    refine ⟨_, (pss_one (ps_ret (pe_ix ix_list (pe_call (ok_passed T) (hr.mono (by decide)) rfl T.m_passed T.F_passed.kp T.b_passed .nil pass0 (pa_cons (pv 0) (pa_cons (pv 1) (pa_cons (pv 2) pa_nil)))) (pe_un un_neg pe_int) (fun _ _ => rfl)))), ?_⟩
    refine ⟨_, rfl, _, rfl, _, rfl, l, js, r, v, rfl, hv, hl, hw, hjl, hj, hr2, ok, fun m H1 hm s1 d1 => ?_⟩
    exact ⟨_, rfl, m, _, _, _, rfl, rfl, SqL.of d1, last_word rfl, k _ s1⟩
/-! moved -/
def sp_moved : Sp := fun vs H Q _ => ∃ (l js r : List Nat) (v : Addr), vs = [.str (S l), .str (S js), .ref v] ∧ H v = some (.lst (placesV r)) ∧ l.length ≤ 50000 ∧ wordB l = true ∧ js.length ≤ 50000 ∧ jointsB js = true ∧ r.length ≤ 50000 ∧ IsRoad js l r ∧ ∀ m H', H m = none → Same H H' → H' m = some (.lst (placesV (ends (List.range l.length) r))) → Q (.ref m) H'
theorem ok_moved (T : Txt K mg) : FnOk P w K mg base CX0 5 T.f_moved T.fd_moved P_moved (sp_moved) := by
  have nd : N_moved.Nodup := sc_moved.nd
  refine T.F_moved.ok sc_moved (fun vs H Q E h => ?_) (fun cdv A outer s H vs Q E hr h => ?_)
  · obtain ⟨l, js, r, v, rfl, _⟩ := h
    rfl
  · obtain ⟨l, js, r, v, rfl, hv, hl, hw, hjl, hj, hr2, ok, k⟩ := h
    refine ⟨_, (pss_cons (ps_expr (pe_call (ok_passed T) (hr.mono (by decide)) rfl T.m_passed T.F_passed.kp T.b_passed .nil pass0 (pa_cons (pv 0) (pa_cons (pv 1) (pa_cons (pv 2) pa_nil)))))
      (pss_cons (ps_set (i := 3) nd rfl (Or.inl rfl) (pe_listRg rfl rfl T.z_list (prg_1 rfl T.z_range (pe_callB call_len (by rfl) T.z_len (by decide +kernel) (pa_cons (pv 0) pa_nil)))))
      (pss_cons (ps_for PassesOwn.never rfl (pi_list (pv 2)) (pg_name (i := 4) nd rfl (Or.inl rfl))
      (pss_one (ps_set (i := 3) nd rfl (Or.inl rfl) (pe_call (ok_sides_changed_list T) (hr.mono (by decide)) rfl T.m_sides_changed T.F_sides_changed.kp T.b_sides_changed .nil pass0 (pa_cons (pv 3) (pa_cons (pv 4) pa_nil))))))
      (pss_one (ps_ret (pv 3)))))), ?_⟩
    refine ⟨_, rfl, _, rfl, _, rfl, l, js, r, v, rfl, hv, hl, hw, hjl, hj, hr2, ok, fun m0 H1 hm0 s1 d1 => ?_⟩
    refine ⟨_, rfl, _, l.length, rfl, ⟨by rw [len_S]; exact small_le (by omega), by rw [len_S]⟩, _, rfl, RgOk.of_le (by omega) (by omega) (by omega) (by omega), fun m hm => ?_⟩
    rw [rg_places]
    have s2 := s1.trans (Same.upd (o := HO.lst (placesV (List.range l.length))) hm)
    refine ⟨_, rfl, v, rfl, ⟨_, SqL.of (s2 _ _ hv)⟩, for_list (K := K) (a := v) (xs := placesV r) (fun i σ H' => ∃ (pv : Option V) (m' : Addr), σ = [some (.str (S l)), some (.str (S js)), some (.ref v), some (.ref m'), pv] ∧ Same H H' ∧ H m' = none ∧ H' m' = some (.lst (placesV (ends (List.range l.length) (r.take i))))) ⟨none, m, rfl, s2, s1.free hm, upd_same⟩ (fun i σ H' _ ⟨_, _, _, s, _⟩ => SqL.of (s _ _ hv)) ?_ ?_⟩
    · rintro i y σ H2 hi ⟨pv, m', rfl, s3, f3, d3⟩
      obtain ⟨p, hp, rfl⟩ := place_of hi
      have hpl : p < l.length := road_lt ok p (List.mem_of_getElem? hp)
      have hel : (ends (List.range l.length) (r.take i)).length = l.length := by
        rw [ends_len fun q hq => by rw [List.length_range]; exact road_lt ok q (List.mem_of_mem_take hq), List.length_range]
      refine ⟨_, rfl, _, rfl, m', _, p, rfl, d3, by rw [hel]; exact hl, by rw [hel]; exact hpl, fun m2 H3 hm2 s4 d4 => ?_⟩
      exact ⟨_, m2, rfl, s3.trans s4, s3.free hm2, by rw [d4, ends_take hp]⟩
    rintro σ H2 ⟨pv, m', rfl, s3, f3, d3⟩
    rw [List.length_map, List.take_length] at d3
    exact ⟨_, rfl, k m' H2 f3 s3 d3⟩
/-! price_of -/
def sp_price_of : Sp := fun vs H Q _ => ∃ (l r : List Nat) (ps : List (Nat × Int)) (a v : Addr), vs = [.str (S l), .ref a, .ref v] ∧ PricesAt H a ps ∧ PricesOk ps ∧ ps.length ≤ 50000 ∧ H v = some (.lst (placesV r)) ∧ l.length ≤ 50000 ∧ wordB l = true ∧ r.length ≤ 50000 ∧ IsRoad (ps.map (·.1)) l r ∧ ∀ H', Same H H' → Q (.int (costL ps l r)) H'
theorem ok_price_of (T : Txt K mg) : FnOk P w K mg base CX0 6 T.f_price_of T.fd_price_of P_price_of (sp_price_of) := by
  have nd : N_price_of.Nodup := sc_price_of.nd
  refine T.F_price_of.ok sc_price_of (fun vs H Q E h => ?_) (fun cdv A outer s H vs Q E hr h => ?_)
  · obtain ⟨l, r, ps, a, v, rfl, _⟩ := h
    rfl
  · obtain ⟨l, r, ps, a, v, rfl, ha, ok, hpl, hv, hl, hw, hr2, rd, k⟩ := h
    refine ⟨_, (pss_cons (ps_expr (pe_call (ok_check_word T) (hr.mono (by decide)) rfl T.m_check_word T.F_check_word.kp T.b_check_word .nil pass0 (pa_cons (pv 0) pa_nil)))
      (pss_cons (ps_expr (pe_call (ok_check_prices T) (hr.mono (by decide)) rfl T.m_check_prices T.F_check_prices.kp T.b_check_prices .nil pass0 (pa_cons (pv 1) pa_nil)))
      (pss_cons (ps_set (i := 3) nd rfl (Or.inl rfl) (pe_call (ok_passed T) (hr.mono (by decide)) rfl T.m_passed T.F_passed.kp T.b_passed .nil pass0 (pa_cons (pv 0) (pa_cons (pe_call (ok_letters_priced T) (hr.mono (by decide)) rfl T.m_letters_priced T.F_letters_priced.kp T.b_letters_priced .nil pass0 (pa_cons (pv 1) pa_nil)) (pa_cons (pv 2) pa_nil)))))
      (pss_cons (ps_set (i := 4) nd rfl (Or.inr rfl) (pe_callTy (call_dictP rfl) (by rfl) T.z_dict (by decide +kernel) (pa_cons (pv 1) pa_nil)))
      (pss_one (ps_ret (pe_callB (cr_sum rfl) (by rfl) T.z_sum (by decide +kernel) (pa_cons (pe_lc (own := [("each", 5), ("place", 6)]) (hc := rfl) (hN := nd) (pi_zip (by rfl) T.z_zip (pa_cons (pv 3) (pa_cons (pv 2) pa_nil))) (blkOk_by (N := N_price_of) (sc := defScope s_price_of) (by decide +kernel)) (fun _ _ _ _ _ => by exact (pg_tupK K (n := 2) rfl (pgs_cons (by exact (pg_name (i := 5) nd rfl (Or.inl rfl))) (pgs_cons (by exact (pg_name (i := 6) nd rfl (Or.inl rfl))) pgs_nil)))) (fun _ _ _ _ _ => by exact pts_nil) (fun _ _ _ _ _ => by exact (pe_dget (hu_of hr) (pv 4) (pe_item_str (pv 5) (pv 6) (fun _ _ => rfl)) (fun _ _ => rfl)))) pa_nil)))))))), ?_⟩
    refine ⟨_, rfl, l, rfl, hl, hw, fun H1 s1 => ?_⟩
    refine ⟨_, rfl, a, ps, rfl, PricesAt.same s1 ha, ok, hpl, fun H2 s2 => ?_⟩
    have s12 := s1.trans s2
    have hjs : jointsB (ps.map (·.1)) = true := jointsB_of ok.2 fun c hc => by
      obtain ⟨q, hq, rfl⟩ := List.mem_map.mp hc
      exact (ok.1 q hq).1
    refine ⟨_, rfl, _, rfl, a, ps, rfl, PricesAt.same s12 ha, hpl, fun H3 s3 => ?_⟩
    have s13 := s12.trans s3
    refine ⟨_, rfl, l, ps.map (·.1), r, v, rfl, s13 _ _ hv, hl, hw, by rw [List.length_map]; exact hpl, hjs, hr2, rd, fun m H4 hm s4 d4 => ?_⟩
    have s14 := s13.trans s4
    obtain ⟨ts, hts, hpt⟩ := PricesAt.same s14 ha
    obtain ⟨as, rfl, hpd⟩ := prices_addrs hpt
    refine ⟨_, rfl, a, as, pricesK ps, rfl, SqL.of hts, prices_paired hpd, fun d hd => ?_⟩
    rw [prices_merge ok.2]
    have s5 := Same.upd (o := HO.dK (pricesK ps)) hd
    have d5 : (upd H4 d (.dK (pricesK ps))) d = some (.dK (pricesK ps)) := upd_same
    refine ⟨_, rfl, _, rfl, m, v, _, _, rfl, SqL.of (s5 _ _ d4), SqL.of (s5 _ _ (s14 _ _ hv)), fun D hD => ?_⟩
    refine lc_it (walk_zip (n := r.length) (by rw [List.length_map, List.length_map, pass_len]; omega)) (fun i H' => Same (upd H4 d (.dK (pricesK ps))) H' ∧ ∃ cs : List Int, cs.length = i ∧ cs.sum = costL ps l (r.take i) ∧ H' D = some (.lst (cs.map V.int))) ⟨Same.upd hD, [], rfl, rfl, upd_same⟩
      (fun i H' _ ⟨s, _⟩ => ⟨SqL.of (s _ _ (s5 _ _ d4)), SqL.of (s _ _ (s5 _ _ (s14 _ _ hv)))⟩) ?_ ?_
    · rintro i x H5 H6 hi ⟨s6, cs, c1, c2, c3⟩ ⟨T1, x1, y1, rfl, hT, rfl, h1, h2⟩
      obtain ⟨p, hp, rfl⟩ := place_of h2
      have hx1 : x1 = V.str (S (ends l (r.take i))) := by
        replace h1 : (wordsV (pass l r))[i]? = some x1 := h1
        rw [List.getElem?_map, pass_at (Nat.le_of_lt hi)] at h1
        exact (Option.some.inj h1).symm
      subst hx1
      obtain ⟨c, hc, hcj⟩ := road_at rd hp
      have hel := ends_len (road_lt (road_take (i := i) rd))
      have hlt := (List.getElem?_eq_some_iff.mp hc).1
      have nT : D ≠ T1 := ne_of_none c3 hT
      have nd : d ≠ T1 := ne_of_none (s6 _ _ d5) hT
      refine ⟨T1, _, rfl, SqT.of upd_same, rfl, _, _, rfl, _, _, rfl, rfl, rfl, ?_⟩
      refine ⟨_, rfl, _, rfl, _, rfl, S (ends l (r.take i)), p, c, rfl, rfl, by omega, by omega, by rw [len_S]; omega, by rw [Int.toNat_natCast, at_S]; exact hc, ?_⟩
      have g : DGet (upd H5 T1 (.tup [V.str (S (ends l (r.take i))), V.int (p : Nat)])) d (kV (Sum.inr (S [c]))) (some (V.int (priceAt ps c))) := by
        have z := DGet.k (k := (Sum.inr (S [c]) : Key)) (show (upd H5 T1 (.tup [V.str (S (ends l (r.take i))), V.int (p : Nat)])) d = some (.dK (pricesK ps)) by rw [upd_ne nd]; exact s6 _ _ d5)
        rw [prices_val hcj] at z
        exact z
      refine ⟨d, _, rfl, g, _, by rw [upd_ne nT]; exact c3, ?_, fun b o e => ?_, cs ++ [priceAt ps c], by simp [c1], ?_, ?_⟩
      · rw [List.length_map, c1]; exact small_line (by omega)
      · rw [upd_ne (ne_of_none e hD)]; exact Same.upd hT _ _ (s6 b o e)
      · rw [List.sum_append, c2, cost_take hp, List.getD_eq_getElem?_getD, hc]; simp
      · rw [upd_same]; simp
    rintro H5 ⟨s6, cs, c1, c2, c3⟩
    rw [List.take_length] at c2
    refine ⟨D, cs, rfl, SqL.of c3, ?_⟩
    rw [c2]
    exact k _ (s14.trans (s5.trans s6))
/-! _law_right -/
def sp__law_right : Sp := fun vs H Q _ => ∃ (g : Addr) (b : Nat), vs = [.ref g] ∧ GenAt H g b ∧ b ≤ 100000 ∧ ∀ H', But g H H' → Q (.bl true) H'
theorem ok__law_right (T : Txt K mg) : FnOk P w K mg base CX0 7 T.f__law_right T.fd__law_right P__law_right (sp__law_right) := by
  have nd : N__law_right.Nodup := sc__law_right.nd
  refine T.F__law_right.ok sc__law_right (fun vs H Q E h => ?_) (fun cdv A outer s H vs Q E hr h => ?_)
  · obtain ⟨g, b, rfl, _⟩ := h
    rfl
  · obtain ⟨g, b, rfl, G, hb, k⟩ := h
    refine ⟨_, (pss_cons (ps_set (i := 1) nd rfl (Or.inl rfl) (pe_call (ok__law_letters T) (hr.mono (by decide)) rfl T.m__law_letters T.F__law_letters.kp T.b__law_letters .nil pass0 (pa_cons (pv 0) (pa_cons pe_int (pa_cons pe_int pa_nil)))))
      (pss_cons (ps_set (i := 2) nd rfl (Or.inl rfl) (pe_call (ok__law_joints T) (hr.mono (by decide)) rfl T.m__law_joints T.F__law_joints.kp T.b__law_joints .nil pass0 (pa_cons (pv 0) (pa_cons (pv 1) pa_nil))))
      (pss_cons (ps_set (i := 3) nd rfl (Or.inr rfl) (pe_ix ix_list (pe_lst (pa_cons pe_int (pa_cons (pe_op op_powW pe_int pe_int) pa_nil))) (pe_call (ok__law_random T) (hr.mono (by decide)) rfl T.m__law_random T.F__law_random.kp T.b__law_random .nil pass0 (pa_cons (pv 0) (pa_cons pe_int pa_nil))) (fun _ _ => rfl)))
      (pss_cons (ps_setLc (i := 4) (own := [("_law_letter", 15)]) rfl nd rfl rfl (sw_true rfl rfl rfl (by decide +kernel)) (pi_str (pv 2)) (blkOk_by (N := N__law_right) (sc := defScope s__law_right) (by decide +kernel)) (fun _ _ _ _ _ => by exact (pg_name (i := 15) nd rfl (Or.inl rfl))) (fun _ _ _ _ _ => by exact pts_nil) (fun _ _ _ _ _ => by exact (pe_tup (pa_cons (pv 15) (pa_cons (pe_op op_add pe_int (pe_call (ok__law_random T) (hr.mono (by decide)) rfl T.m__law_random T.F__law_random.kp T.b__law_random .nil pass0 (pa_cons (pv 0) (pa_cons (pv 3) pa_nil)))) pa_nil)))))
      (pss_cons (ps_set (i := 5) nd rfl (Or.inl rfl) (pe_ix ix_list (pe_lst (pa_cons (pe_call (ok__law_random T) (hr.mono (by decide)) rfl T.m__law_random T.F__law_random.kp T.b__law_random .nil pass0 (pa_cons (pv 0) (pa_cons pe_int pa_nil))) (pa_cons (pe_call (ok__law_random T) (hr.mono (by decide)) rfl T.m__law_random T.F__law_random.kp T.b__law_random .nil pass0 (pa_cons (pv 0) (pa_cons pe_int pa_nil))) pa_nil))) (pe_call (ok__law_random T) (hr.mono (by decide)) rfl T.m__law_random T.F__law_random.kp T.b__law_random .nil pass0 (pa_cons (pv 0) (pa_cons pe_int pa_nil))) (fun _ _ => rfl)))
      (pss_cons (ps_set (i := 6) nd rfl (Or.inr rfl) (pe_call (ok__law_word T) (hr.mono (by decide)) rfl T.m__law_word T.F__law_word.kp T.b__law_word .nil pass0 (pa_cons (pv 0) (pa_cons (pv 1) (pa_cons (pv 5) pa_nil)))))
      (pss_cons (ps_set (i := 7) nd rfl (Or.inl rfl) (pe_call (ok__law_road T) (hr.mono (by decide)) rfl T.m__law_road T.F__law_road.kp T.b__law_road .nil pass0 (pa_cons (pv 0) (pa_cons (pv 6) (pa_cons (pv 2) (pa_cons (pe_call (ok__law_random T) (hr.mono (by decide)) rfl T.m__law_random T.F__law_random.kp T.b__law_random .nil pass0 (pa_cons (pv 0) (pa_cons pe_int pa_nil))) pa_nil))))))
      (pss_cons (ps_asg (pe_tup (pa_cons (pe_call (ok_done T) (hr.mono (by decide)) rfl T.m_done T.F_done.kp T.b_done .nil pass0 (pa_cons (pv 6) (pa_cons (pv 2) (pa_cons (pv 7) pa_nil)))) (pa_cons (pe_call (ok__law_moved T) (hr.mono (by decide)) rfl T.m__law_moved T.F__law_moved.kp T.b__law_moved .nil pass0 (pa_cons (pe_callB call_len (by rfl) T.z_len (by decide +kernel) (pa_cons (pv 6) pa_nil)) (pa_cons (pv 7) pa_nil))) (pa_cons (pe_callTy call_list_of (by rfl) T.z_list (by decide +kernel) (pa_cons (pv 4) pa_nil)) pa_nil)))) (pg_tup (n := 3) rfl (pgs_cons (by exact (pg_name (i := 8) nd rfl (Or.inl rfl))) (pgs_cons (by exact (pg_name (i := 9) nd rfl (Or.inr rfl))) (pgs_cons (by exact (pg_name (i := 10) nd rfl (Or.inl rfl))) pgs_nil)))))
      (pss_cons (ps_set (i := 11) nd rfl (Or.inl rfl) (pe_call (ok_moved T) (hr.mono (by decide)) rfl T.m_moved T.F_moved.kp T.b_moved .nil pass0 (pa_cons (pv 6) (pa_cons (pv 2) (pa_cons (pv 7) pa_nil)))))
      (pss_cons (ps_if (PW.pt (pw_or (pt_cmpR (op_neD hr.units) (pv 11) (pv 9) (nomark _)) (pw_or1 (pt_cmpR (op_neD hr.units) (pe_callN0 (ok_moved T) (hr.mono (by decide)) rfl T.m_moved T.F_moved.kp (kb_moved__0_road_joints_word T) pass0 (pk_cons (pv 7) (pk_cons (pv 2) (pk_cons (pv 6) pk_nil)))) (pv 9) (nomark _))))) (pss_one (ps_ret pe_bl)) pss_nil)
      (pss_cons (ps_if (pt_cmpR op_ne (pe_join pe_str (pe_lc (own := [("_law_place", 16)]) (hc := rfl) (hN := nd) (pi_list (pv 9)) (blkOk_by (N := N__law_right) (sc := defScope s__law_right) (by decide +kernel)) (fun _ _ _ _ _ => by exact (pg_name (i := 16) nd rfl (Or.inl rfl))) (fun _ _ _ _ _ => by exact pts_nil) (fun _ _ _ _ _ => by exact (pe_item_str (pv 6) (pv 16) (fun _ _ => rfl))))) (pv 8) (nomark _)) (pss_one (ps_ret pe_bl)) pss_nil)
      (pss_cons (ps_expr (pe_bm PySem.F.plainAttrs_list PySem.F.slot_list_append PySem.F.type_list_append mt_append (pv 11) (pa_cons pe_non pa_nil)))
      (pss_cons (ps_set (i := 12) nd rfl (Or.inl rfl) (pe_call (ok_price_of T) (hr.mono (by decide)) rfl T.m_price_of T.F_price_of.kp T.b_price_of .nil pass0 (pa_cons (pv 6) (pa_cons (pv 4) (pa_cons (pv 7) pa_nil)))))
      (pss_cons (ps_if (PW.pt (pw_or (pt_cmpR op_ne (pv 12) (pe_call (ok__law_cost T) (hr.mono (by decide)) rfl T.m__law_cost T.F__law_cost.kp T.b__law_cost .nil pass0 (pa_cons (pv 6) (pa_cons (pv 4) (pa_cons (pv 7) pa_nil)))) (nomark _)) (pw_or1 (pt_cmpR op_ne (pe_callN0 (ok_price_of T) (hr.mono (by decide)) rfl T.m_price_of T.F_price_of.kp (kb_price_of__0_road_prices_word T) pass0 (pk_cons (pv 7) (pk_cons (pv 4) (pk_cons (pv 6) pk_nil)))) (pv 12) (nomark _))))) (pss_one (ps_ret pe_bl)) pss_nil)
      (pss_cons (ps_set (i := 13) nd rfl (Or.inl rfl) (pe_call (ok_back_road T) (hr.mono (by decide)) rfl T.m_back_road T.F_back_road.kp T.b_back_road .nil pass0 (pa_cons (pe_callB call_len (by rfl) T.z_len (by decide +kernel) (pa_cons (pv 6) pa_nil)) (pa_cons (pv 7) pa_nil))))
      (pss_cons (ps_if (PW.pt (pw_or (pt_cmpR (op_neD hr.units) (pv 4) (pv 10) (nomark _)) (pw_or1 (pt_cmpR op_ne (pe_call (ok_price_of T) (hr.mono (by decide)) rfl T.m_price_of T.F_price_of.kp T.b_price_of .nil pass0 (pa_cons (pv 8) (pa_cons (pv 4) (pa_cons (pv 13) pa_nil)))) (pv 12) (nomark _))))) (pss_one (ps_ret pe_bl)) pss_nil)
      (pss_cons (ps_if (pt_cmpR (op_neD hr.units) (pe_lc (own := [("_law_place", 16)]) (hc := rfl) (hN := nd) (pi_list (pe_call (ok_moved T) (hr.mono (by decide)) rfl T.m_moved T.F_moved.kp T.b_moved .nil pass0 (pa_cons (pv 8) (pa_cons (pv 2) (pa_cons (pv 13) pa_nil))))) (blkOk_by (N := N__law_right) (sc := defScope s__law_right) (by decide +kernel)) (fun _ _ _ _ _ => by exact (pg_name (i := 16) nd rfl (Or.inl rfl))) (fun _ _ _ _ _ => by exact pts_nil) (fun _ _ _ _ _ => by exact (pe_ix (ix_listK K) (pv 9) (pv 16) (fun _ _ => rfl)))) (pe_listRg rfl rfl T.z_list (prg_1 rfl T.z_range (pv 5))) (nomark _)) (pss_one (ps_ret pe_bl)) pss_nil)
      (pss_cons (ps_set (i := 14) nd rfl (Or.inl rfl) (pe_call (ok__law_road T) (hr.mono (by decide)) rfl T.m__law_road T.F__law_road.kp T.b__law_road .nil pass0 (pa_cons (pv 0) (pa_cons (pv 8) (pa_cons (pv 2) (pa_cons pe_int pa_nil))))))
      (pss_cons (ps_if (pt_cmpR op_ne (pe_call (ok_price_of T) (hr.mono (by decide)) rfl T.m_price_of T.F_price_of.kp T.b_price_of .nil pass0 (pa_cons (pv 6) (pa_cons (pv 4) (pa_cons (pe_lst pa_nil) pa_nil)))) pe_int (nomark _)) (pss_one (ps_ret pe_bl)) pss_nil)
      (pss_one (ps_ret (pe_cmpR op_eq (pe_call (ok_price_of T) (hr.mono (by decide)) rfl T.m_price_of T.F_price_of.kp T.b_price_of .nil pass0 (pa_cons (pv 6) (pa_cons (pv 4) (pa_cons (pe_op op_cat (pv 7) (pv 14)) pa_nil)))) (pe_op op_add (pv 12) (pe_call (ok_price_of T) (hr.mono (by decide)) rfl T.m_price_of T.F_price_of.kp T.b_price_of .nil pass0 (pa_cons (pv 8) (pa_cons (pv 4) (pa_cons (pv 14) pa_nil))))) (nomark _))))))))))))))))))))))), ?_⟩
    refine ⟨_, rfl, g, 1, 5, b, rfl, G, by omega, by omega, by omega, fun l H1 l1 l2 hp hc b1 G1 => ?_⟩
    refine ⟨_, rfl, _, rfl, g, l, b + 100, rfl, G1, by omega, by omega, fun js H2 hs b2 G2 => ?_⟩
    have hb2 : b + 100 + 10 * l.length ≤ 101000 := by omega
    generalize b + 100 + 10 * l.length = c2 at G2 hb2
    have hjp : js.Pairwise (· < ·) := hp.sublist hs
    have hjm : ∀ c ∈ js, 97 ≤ c ∧ c ≤ 122 := fun c h => hc c (hs.subset h)
    have hj : jointsB js = true := jointsB_of hjp hjm
    have hjl : js.length ≤ 5 := by have := hs.length_le; omega
    -- most
    refine ⟨_, _, rfl, rfl, ⟨by decide, by decide +kernel⟩, (by show 2 ≤ sizeLine; decide), fun p2 hp2 => ?_⟩
    have np2 : p2 ≠ g := G2.ne hp2
    refine ⟨_, rfl, g, 2, c2, rfl, G2.new hp2, by omega, by decide, by decide, fun r1 H3 q1 q2 b3 G3 => ?_⟩
    obtain ⟨mo, hmo, mo1, mo2⟩ := pick2 (a := 6) (b := 10 ^ (29 : Int).toNat) q1 q2
    refine ⟨p2, _, _, _, rfl, rfl, SqL.of (b3 _ _ np2 upd_same), hmo, ?_⟩
    have B3 : But g H H3 := b1.trans (b2.trans ((But.same (Same.upd hp2)).trans b3))
    -- prices
    have hmo1 : 0 < mo ∧ mo.natAbs < 2 ^ 120 := by rcases mo1 with rfl | rfl <;> exact ⟨by decide +kernel, by decide +kernel⟩
    refine ⟨_, rfl, _, rfl, fun D hD => ?_⟩
    have nDg : D ≠ g := G3.ne hD
    refine lc_it walk_str (fun i H' => ∃ ps : List (Nat × Int), ps.map (·.1) = js.take i ∧ (∀ q ∈ ps, 1 ≤ q.2) ∧ But g H3 H' ∧ GenAt H' g (c2 + 10 + 10 * i) ∧ PricesAt H' D ps)
      ⟨[], rfl, fun q h => (nomatch h), But.same (Same.upd hD), G3.new hD, ⟨[], upd_same, .nil⟩⟩ (fun _ _ _ _ => trivial) ?_ ?_
    · rintro i x H4 H5 hi ⟨ps, e1, e2, b4, G4, ts, hts, hpt⟩ ⟨rfl, c, hc, rfl⟩
      rw [at_S] at hc
      rw [size_S] at hi
      have tl := Sw.Paired.len hpt
      have pl : ps.length = i := by have := congrArg List.length e1; rw [List.length_map, List.length_take] at this; omega
      refine ⟨rfl, _, rfl, _, rfl, _, rfl, g, mo, c2 + 10 + 10 * i, rfl, G4, by omega, hmo1.1, hmo1.2, fun q H6 q0 q1 b6 G6 => ?_⟩
      refine ⟨_, _, rfl, rfl, (by show 2 ≤ sizeLine; decide), fun t ht => ?_⟩
      obtain ⟨gx, gy, gz, g0, gh⟩ := id G4
      have d6 := b6 _ _ nDg hts
      have nDt : D ≠ t := ne_of_none d6 ht
      have hpt6 : Paired (PriceT (upd H6 t (.tup [V.str ⟨#[c]⟩, V.int (1 + q)]))) ts ps := Paired.mapP hpt fun u w z => by
        obtain ⟨a, e, h⟩ := z
        exact ⟨a, e, Same.upd ht _ _ (b6 _ _ (ne_of h g0 (by intro z; cases z)) h)⟩
      have d7 : (upd H6 t (.tup [V.str ⟨#[c]⟩, V.int (1 + q)])) D = some (.lst ts) := by rw [upd_ne nDt]; exact d6
      have t7 : PriceT (upd H6 t (.tup [V.str ⟨#[c]⟩, V.int (1 + q)])) (.ref t) (c, 1 + q) := ⟨t, rfl, upd_same⟩
      have G7 := G6.new (o := HO.tup [V.str ⟨#[c]⟩, V.int (1 + q)]) ht
      have b7 : But g H3 (upd H6 t (.tup [V.str ⟨#[c]⟩, V.int (1 + q)])) := b4.trans (b6.trans (But.same (Same.upd ht)))
      refine ⟨ts, d7, ?_, ps ++ [(c, 1 + q)], ?_, ?_, ?_, ?_, ⟨ts ++ [.ref t], upd_same, Sw.Paired.snoc (Paired.mapP hpt6 fun u w z => PriceT.upd d7 z) (PriceT.upd d7 t7)⟩⟩
      · rw [tl, pl]; exact small_line (by omega)
      · rw [List.map_append, e1, take_snoc hc]; rfl
      · intro y hy
        rcases List.mem_append.mp hy with hy | hy
        · exact e2 y hy
        · rw [List.mem_singleton.mp hy]; show 1 ≤ 1 + q; omega
      · exact fun a o ne e => by rw [upd_ne (ne_of_none e hD)]; exact b7 a o ne e
      · obtain ⟨x, y, z, g1, hx⟩ := G7
        exact ⟨x, y, z, by rw [upd_ne nDg.symm]; exact g1, hx.1, hx.2.1, by omega, by omega⟩
    rintro H4 ⟨ps, e1, e2, b4, G4, pr4⟩
    rw [size_S, List.take_length] at e1
    rw [size_S] at G4
    have ok : PricesOk ps := ⟨fun q hq => ⟨hjm q.1 (by rw [← e1]; exact List.mem_map_of_mem hq), e2 q hq⟩, by rw [e1]; exact hjp⟩
    have pl : ps.length ≤ 50000 := by have := congrArg List.length e1; rw [List.length_map] at this; omega
    have hc3 : c2 + 10 + 10 * js.length ≤ 102000 := by omega
    generalize c2 + 10 + 10 * js.length = c3 at G4 hc3
    -- size
    show tSeq _ _ _ [some (V.ref g), some (V.str (S l)), some (V.str (S js)), some (V.int mo), some (V.ref D), none, none, none, none, none, none, none, none, none, none, none, none] _
    refine ⟨_, rfl, g, 8, c3, rfl, G4, by omega, by decide, by decide, fun ra H5 ra0 ra1 b5 G5 => ?_⟩
    refine ⟨_, rfl, g, 61, c3 + 10, rfl, G5, by omega, by decide, by decide, fun rb H6 rb0 rb1 b6 G6 => ?_⟩
    refine ⟨(by show 2 ≤ sizeLine; decide), fun p6 hp6 => ?_⟩
    have np6 : p6 ≠ g := G6.ne hp6
    refine ⟨_, rfl, g, 2, c3 + 10 + 10, rfl, G6.new hp6, by omega, by decide, by decide, fun rc H7 rc0 rc1 b7 G7 => ?_⟩
    obtain ⟨n', hn', hn2, _⟩ := pick2 (a := ra) (b := rb) rc0 rc1
    obtain ⟨n, rfl⟩ : ∃ n : Nat, n' = (n : Int) := ⟨n'.toNat, by omega⟩
    refine ⟨p6, _, _, _, rfl, rfl, SqL.of (b7 _ _ np6 upd_same), hn', ?_⟩
    have pr7 := ((pr4.but G4 nDg b5).but G5 nDg b6).but G6 nDg ((But.same (Same.upd hp6)).trans b7)
    have B7 : But g H H7 := B3.trans (b4.trans (b5.trans (b6.trans ((But.same (Same.upd hp6)).trans b7))))
    have hn300 : n ≤ 60 := by omega
    -- word
    refine ⟨_, rfl, _, rfl, _, rfl, g, l, n, c3 + 10 + 10 + 10, rfl, G7, by omega, by omega, by omega, by omega, fun ws H8 hlen hm b8 G8 => ?_⟩
    have hw : wordB ws = true := wordB_of fun c h => hc c (hm c h)
    have pr8 := pr7.but G7 nDg b8
    have hc4 : c3 + 10 + 10 + 10 + 10 * n ≤ 103000 := by omega
    generalize c3 + 10 + 10 + 10 + 10 * n = c4 at G8 hc4
    -- road
    show tSeq _ _ _ [some (V.ref g), some (V.str (S l)), some (V.str (S js)), some (V.int mo), some (V.ref D), some (V.int (n : Nat)), some (V.str (S ws)), none, none, none, none, none, none, none, none, none, none] _
    refine ⟨_, rfl, _, rfl, _, rfl, _, rfl, g, 41, c4, rfl, G8, by omega, by decide, by decide, fun rr H9 rr0 rr1 b9 G9 => ?_⟩
    obtain ⟨n2, rfl⟩ : ∃ n2 : Nat, rr = (n2 : Int) := ⟨rr.toNat, by omega⟩
    refine ⟨g, ws, js, n2, c4 + 10, rfl, G9, by omega, by omega, by omega, fun r v H10 rd hrl hv b10 G10 dv => ?_⟩
    have pr10 := (pr8.but G8 nDg b9).but G9 nDg b10
    have B10 : But g H H10 := B7.trans (b8.trans (b9.trans b10))
    have hc5 : c4 + 10 + 10 * n2 ≤ 104000 := by omega
    generalize c4 + 10 + 10 * n2 = c5 at G10 hc5
    have hrn : ∀ p ∈ r, p < n := fun p hp => by rw [← hlen]; exact road_lt rd p hp
    have rdp : IsRoad (ps.map (·.1)) ws r := by rw [e1]; exact rd
    -- last, due, fees
    show tSeq _ _ _ [some (V.ref g), some (V.str (S l)), some (V.str (S js)), some (V.int mo), some (V.ref D), some (V.int (n : Nat)), some (V.str (S ws)), some (V.ref v), none, none, none, none, none, none, none, none, none] _
    refine ⟨_, rfl, _, rfl, _, rfl, ws, js, r, v, rfl, dv, by omega, hw, by omega, hj, by omega, rd, fun H11 s11 => ?_⟩
    refine ⟨_, rfl, _, n, rfl, ⟨by rw [len_S]; exact small_le (by omega), by rw [len_S, hlen]⟩, _, rfl, n, r, v, rfl, s11 _ _ dv, by omega, hrn, fun m H12 hm12 s12 dm => ?_⟩
    obtain ⟨ts, hts, hpt⟩ := PricesAt.same (s11.trans s12) pr10
    refine ⟨_, rfl, D, ts, rfl, .inl (SqL.of hts), fun fe hfe => ?_⟩
    refine ⟨(by show 3 ≤ sizeLine; decide), fun t ht => ⟨t, _, rfl, SqT.of upd_same, rfl, _, _, rfl, _, _, rfl, _, _, rfl, rfl, ?_⟩⟩
    have s13 := (Same.upd (o := HO.lst ts) hfe).trans (Same.upd (o := HO.tup [V.str (S (ends ws r)), V.ref m, V.ref fe]) ht)
    have F13 : Facts4 H g D m fe v ps r (ends (List.range n) r) c5 (upd (upd H12 fe (.lst ts)) t (.tup [V.str (S (ends ws r)), V.ref m, V.ref fe])) := by
      refine ⟨(pr10.same (s11.trans s12)).same s13, ⟨ts, ?_, Paired.mapP hpt fun u w z => PriceT.same s13 z⟩, s13 _ _ dm, s13 _ _ (s12 _ _ (s11 _ _ dv)), ((G10.same s11).same s12).same s13, B10.trans ((But.same s11).trans ((But.same s12).trans (But.same s13)))⟩
      rw [upd_ne (ne_of_none upd_same ht)]; exact upd_same
    generalize (upd (upd H12 fe (.lst ts)) t (.tup [V.str (S (ends ws r)), V.ref m, V.ref fe])) = H13 at F13
    -- told
    show tSeq _ _ _ [some (V.ref g), some (V.str (S l)), some (V.str (S js)), some (V.int mo), some (V.ref D), some (V.int (n : Nat)), some (V.str (S ws)), some (V.ref v), some (V.str (S (ends ws r))), some (V.ref m), some (V.ref fe), none, none, none, none, none, none] _
    have hwl : ws.length ≤ 50000 := by omega
    refine ⟨_, rfl, _, rfl, _, rfl, ws, js, r, v, rfl, F13.ro, hwl, hw, by omega, hj, by omega, rd, fun tl H14 htl s14 d14 => ?_⟩
    rw [hlen] at d14
    show tSeq _ _ _ [some (V.ref g), some (V.str (S l)), some (V.str (S js)), some (V.int mo), some (V.ref D), some (V.int (n : Nat)), some (V.str (S ws)), some (V.ref v), some (V.str (S (ends ws r))), some (V.ref m), some (V.ref fe), some (V.ref tl), none, none, none, none, none] _
    have F14 := F13.same s14
    refine ⟨_, rfl, _, rfl, ne_places (SqL.of d14) (SqL.of F14.du) ⟨_, rfl, iteF ?_⟩⟩
    refine ⟨_, rfl, _, rfl, _, rfl, rfl, rfl, ws, js, r, v, rfl, F14.ro, hwl, hw, by omega, hj, by omega, rd, fun tl2 H15 htl2 s15 d15 => ?_⟩
    rw [hlen] at d15
    have F15 := F14.same s15
    refine ⟨_, rfl, ne_places (SqL.of d15) (SqL.of F15.du) ⟨_, rfl, iteF ?_⟩⟩
    -- the word out of the places
    have nvg : v ≠ g := G9.ne hv
    have hel : (ends (List.range n) r).length = n := by rw [ends_len fun p hp => by rw [List.length_range]; exact hrn p hp, List.length_range]
    have hel2 : (ends ws r).length = n := by rw [ends_len (road_lt rd), hlen]
    have hwe : wordB (ends ws r) = true := wordB_of fun c h => wordB_mem hw (ends_mem h)
    refine ⟨⟨_, rfl⟩, _, rfl, m, rfl, ⟨_, SqL.of F15.du⟩, fun D2 hD2 => ?_⟩
    refine lc_it walk_list (fun i H' => Same H15 H' ∧ H' D2 = some (.lst (((((ends (List.range n) r).take i).map fun q => ws.getD q 0).map fun c => S [c]).map V.str))) ⟨Same.upd hD2, by rw [upd_same]; rfl⟩ (fun i H' _ ⟨s, _⟩ => SqL.of (s _ _ F15.du)) ?_ ?_
    · rintro i x H16 H17 hi ⟨s16, d16⟩ ⟨rfl, hx⟩
      obtain ⟨q, hq, rfl⟩ := place_of hx
      have hqn : q < n := List.mem_range.mp (ends_mem (List.mem_of_getElem? hq))
      have hcq : ws[q]? = some (ws.getD q 0) := by rw [List.getD_eq_getElem?_getD, List.getElem?_eq_getElem (by omega)]; rfl
      have hil : i < n := by have := (List.getElem?_eq_some_iff.mp hq).1; omega
      refine ⟨rfl, _, rfl, _, rfl, S ws, q, _, rfl, rfl, by omega, by omega, by rw [len_S]; omega, by rw [Int.toNat_natCast, at_S]; exact hcq, ?_⟩
      refine ⟨_, d16, ?_, fun b o e => ?_, ?_⟩
      · rw [List.length_map, List.length_map, List.length_map, List.length_take]; exact small_line (by omega)
      · rw [upd_ne (ne_of_none e hD2)]; exact s16 b o e
      · rw [upd_same, take_snoc hq]; simp
    rintro H16 ⟨s16, d16⟩
    have e16 : (ends (List.range n) r).map (fun q => ws.getD q 0) = ends ws r := by rw [← hlen]; exact moved_get ws r
    rw [List.length_map, List.take_length, e16] at d16
    refine ⟨_, D2, (ends ws r).map fun c => S [c], rfl, rfl, .inl (SqL.of d16), join_bound (by omega), ?_⟩
    rw [join_signs]
    refine ⟨_, rfl, rfl, _, rfl, iteNS rfl ?_⟩
    -- told.append(None)
    refine ⟨_, rfl, .inl ⟨rfl, _, SqL.of (s16 _ _ (s15 _ _ d14))⟩, tl, _, _, rfl, rfl, s16 _ _ (s15 _ _ d14), (by rw [List.length_map, hel]; exact small_line (by omega)), ?_⟩
    have F17 : Facts4 H g D m fe v ps r (ends (List.range n) r) c5 (upd H16 tl (.lst (placesV (ends (List.range n) r) ++ [V.non]))) := F13.same (Same.updF ((s14.trans s15).trans s16) htl)
    generalize upd H16 tl (.lst (placesV (ends (List.range n) r) ++ [V.non])) = H17 at F17
    -- what the road costs
    show tSeq _ _ _ [some (V.ref g), some (V.str (S l)), some (V.str (S js)), some (V.int mo), some (V.ref D), some (V.int (n : Nat)), some (V.str (S ws)), some (V.ref v), some (V.str (S (ends ws r))), some (V.ref m), some (V.ref fe), some (V.ref tl), none, none, none, none, none] _
    refine ⟨_, rfl, _, rfl, _, rfl, ws, r, ps, D, v, rfl, F17.pr, ok, pl, F17.ro, hwl, hw, by omega, rdp, fun H18 s18 => ?_⟩
    have F18 := F17.same s18
    show tSeq _ _ _ [some (V.ref g), some (V.str (S l)), some (V.str (S js)), some (V.int mo), some (V.ref D), some (V.int (n : Nat)), some (V.str (S ws)), some (V.ref v), some (V.str (S (ends ws r))), some (V.ref m), some (V.ref fe), some (V.ref tl), some (V.int (costL ps ws r)), none, none, none, none] _
    refine ⟨_, rfl, _, rfl, _, rfl, _, rfl, ws, r, ps, D, v, rfl, F18.pr, ok, pl, F18.ro, hwl, road_lt rd, fun H19 s19 => ?_⟩
    refine ⟨rfl, _, rfl, iteNS rfl ?_⟩
    have F19 := F18.same s19
    refine ⟨_, rfl, _, rfl, _, rfl, rfl, rfl, ws, r, ps, D, v, rfl, F19.pr, ok, pl, F19.ro, hwl, hw, by omega, rdp, fun H20 s20 => ?_⟩
    refine ⟨_, rfl, rfl, _, rfl, iteNS rfl ?_⟩
    have F20 := F19.same s20
    -- back
    show tSeq _ _ _ [some (V.ref g), some (V.str (S l)), some (V.str (S js)), some (V.int mo), some (V.ref D), some (V.int (n : Nat)), some (V.str (S ws)), some (V.ref v), some (V.str (S (ends ws r))), some (V.ref m), some (V.ref fe), some (V.ref tl), some (V.int (costL ps ws r)), none, none, none, none] _
    refine ⟨_, rfl, _, n, rfl, ⟨by rw [len_S]; exact small_le (by omega), by rw [len_S, hlen]⟩, _, rfl, n, r, v, rfl, F20.ro, by omega, hrn, by omega, fun bk H21 hbk s21 d21 => ?_⟩
    have F21 := F20.same s21
    show tSeq _ _ _ [some (V.ref g), some (V.str (S l)), some (V.str (S js)), some (V.int mo), some (V.ref D), some (V.int (n : Nat)), some (V.str (S ws)), some (V.ref v), some (V.str (S (ends ws r))), some (V.ref m), some (V.ref fe), some (V.ref tl), some (V.int (costL ps ws r)), some (V.ref bk), none, none, none] _
    have hbr : IsRoad js (ends ws r) (backL n r) := by have := back_road rd; rw [hlen] at this; exact this
    have hbl : (backL n r).length ≤ 50000 := by unfold backL; rw [List.length_map, List.length_reverse]; omega
    have hcb : costL ps (ends ws r) (backL n r) = costL ps ws r := by have := cost_back ps (road_lt rd); rw [hlen] at this; exact this
    refine ⟨_, rfl, _, rfl, prices_same ok F21.pr F21.fe ⟨_, rfl, iteF ?_⟩⟩
    refine ⟨_, rfl, _, rfl, _, rfl, ends ws r, backL n r, ps, D, bk, rfl, F21.pr, ok, pl, d21, by omega, hwe, hbl, by rw [e1]; exact hbr, fun H22 s22 => ?_⟩
    refine ⟨_, rfl, rfl, _, rfl, iteNS (by rw [hcb]) ?_⟩
    have F22 := F21.same s22
    -- the places there and back
    show tSeq _ _ _ [some (V.ref g), some (V.str (S l)), some (V.str (S js)), some (V.int mo), some (V.ref D), some (V.int (n : Nat)), some (V.str (S ws)), some (V.ref v), some (V.str (S (ends ws r))), some (V.ref m), some (V.ref fe), some (V.ref tl), some (V.int (costL ps ws r)), some (V.ref bk), none, none, none] _
    refine ⟨_, rfl, _, rfl, _, rfl, ends ws r, js, backL n r, bk, rfl, s22 _ _ d21, by omega, hwe, by omega, hj, hbl, hbr, fun m2 H23 hm2 s23 d23 => ?_⟩
    rw [hel2] at d23
    refine ⟨m2, rfl, ⟨_, SqL.of d23⟩, fun D3 hD3 => ?_⟩
    have F23 := F22.same s23
    have hbn : ∀ p ∈ backL n r, p < (List.range n).length := fun p hp => by
      rw [List.length_range, ← hel2]; exact road_lt hbr p hp
    have hel3 : (ends (List.range n) (backL n r)).length = n := by rw [ends_len hbn, List.length_range]
    refine lc_it walk_list (fun i H' => Same H23 H' ∧ H' D3 = some (.lst (placesV (((ends (List.range n) (backL n r)).take i).map fun q => (ends (List.range n) r).getD q 0)))) ⟨Same.upd hD3, upd_same⟩ (fun i H' _ ⟨s, _⟩ => SqL.of (s _ _ d23)) ?_ ?_
    · rintro i x H24 H25 hi ⟨s24, d24⟩ ⟨rfl, hx⟩
      obtain ⟨q, hq, rfl⟩ := place_of hx
      have hqn : q < n := List.mem_range.mp (ends_mem (List.mem_of_getElem? hq))
      have hcq : (ends (List.range n) r)[q]? = some ((ends (List.range n) r).getD q 0) := by rw [List.getD_eq_getElem?_getD, List.getElem?_eq_getElem (by omega)]; rfl
      have hil : i < n := by have := (List.getElem?_eq_some_iff.mp hq).1; omega
      refine ⟨rfl, _, rfl, _, rfl, m, _, _, V.int (((ends (List.range n) r).getD q 0 : Nat)), rfl, rfl, SqL.of (s24 _ _ F23.du), atI_nat (by rw [List.getElem?_map, hcq]; rfl), _, d24, ?_, fun b o e => ?_, ?_⟩
      · rw [List.length_map, List.length_map, List.length_take]; exact small_line (by omega)
      · rw [upd_ne (ne_of_none e hD3)]; exact s24 b o e
      · rw [upd_same, take_snoc hq]; simp [placesV]
    rintro H24 ⟨s24, d24⟩
    rw [List.length_map, List.take_length, due_get hrn] at d24
    refine ⟨_, rfl, _, rfl, RgOk.of_le (by omega) (by omega) (by omega) (by omega), fun q hq => ?_⟩
    rw [rg_places]
    refine ne_places (SqL.of (Same.upd hq _ _ d24)) (SqL.of upd_same) ⟨_, rfl, iteF ?_⟩
    have F25 := (F23.same s24).same (Same.upd (o := HO.lst (placesV (List.range n))) hq)
    generalize upd H24 q (.lst (placesV (List.range n))) = H25 at F25
    -- more
    show tSeq _ _ _ [some (V.ref g), some (V.str (S l)), some (V.str (S js)), some (V.int mo), some (V.ref D), some (V.int (n : Nat)), some (V.str (S ws)), some (V.ref v), some (V.str (S (ends ws r))), some (V.ref m), some (V.ref fe), some (V.ref tl), some (V.int (costL ps ws r)), some (V.ref bk), none, none, none] _
    refine ⟨_, rfl, _, rfl, _, rfl, g, ends ws r, js, 5, c5, rfl, F25.G, by omega, by omega, by omega, fun r2 v2 H26 rd2 hr2l hv2 b26 G26 dv2 => ?_⟩
    have pr26 := F25.pr.but F25.G nDg b26
    have ro26 := b26 _ _ nvg F25.ro
    have B26 := F25.B.trans b26
    -- nothing costs nothing
    show tSeq _ _ _ [some (V.ref g), some (V.str (S l)), some (V.str (S js)), some (V.int mo), some (V.ref D), some (V.int (n : Nat)), some (V.str (S ws)), some (V.ref v), some (V.str (S (ends ws r))), some (V.ref m), some (V.ref fe), some (V.ref tl), some (V.int (costL ps ws r)), some (V.ref bk), some (V.ref v2), none, none] _
    refine ⟨_, rfl, _, rfl, (by show 0 ≤ sizeLine; decide), fun e he => ?_⟩
    refine ⟨ws, [], ps, D, e, rfl, pr26.same (Same.upd he), ok, pl, upd_same, hwl, hw, (by show 0 ≤ 50000; decide), trivial, fun H27 s27 => ?_⟩
    refine ⟨rfl, _, rfl, iteNS rfl ?_⟩
    have s27' := (Same.upd (o := HO.lst []) he).trans s27
    -- both roads, one behind the other
    refine ⟨_, rfl, _, rfl, _, rfl, _, rfl, v, v2, _, _, rfl, rfl, s27' _ _ ro26, s27' _ _ dv2, ?_, fun c hcn => ?_⟩
    · rw [List.length_map, List.length_map]; exact small_le (by omega)
    have s28 := s27'.trans (Same.upd (o := HO.lst (placesV r ++ placesV r2)) hcn)
    refine ⟨ws, r ++ r2, ps, D, c, rfl, pr26.same s28, ok, pl, upd_same.trans (by simp [placesV]), hwl, hw, by rw [List.length_append]; omega, by rw [e1]; exact road_append.mpr ⟨rd, rd2⟩, fun H29 s29 => ?_⟩
    refine ⟨_, rfl, _, rfl, _, rfl, _, rfl, ends ws r, r2, ps, D, v2, rfl, (pr26.same s28).same s29, ok, pl, s29 _ _ (s28 _ _ dv2), by omega, hwe, by omega, by rw [e1]; exact rd2, fun H30 s30 => ?_⟩
    refine ⟨_, _, rfl, rfl, rfl, ?_⟩
    have fin := k H30 (B26.trans ((But.same s28).trans ((But.same s29).trans (But.same s30))))
    have ed : decide (V.int (costL ps ws (r ++ r2)) = V.int (costL ps ws r + costL ps (ends ws r) r2)) = true := decide_eq_true (by rw [cost_append])
    rw [← ed] at fin
    exact fin
/-! law -/
def sp_law (K : PySem.W.Frag) : Sp := fun vs H Q _ => ∃ (a : Addr) (ns : List Int), vs = [.ref a] ∧ SqL K H a (ns.map V.int) ∧ ns.length ≤ 63 ∧ ∀ H', Q (.bl true) H'
theorem ok_law (T : Txt K mg) : FnOk P w K mg base CX0 8 T.f_law T.fd_law P_law (sp_law K) := by
  have nd : N_law.Nodup := sc_law.nd
  refine T.F_law.ok sc_law (fun vs H Q E h => ?_) (fun cdv A outer s H vs Q E hr h => ?_)
  · obtain ⟨a, ns, rfl, _⟩ := h
    rfl
  · obtain ⟨a, ns, rfl, hS, hlen, k⟩ := h
    refine ⟨_, (pss_cons (ps_for PassesOwn.never rfl (pi_range1 rfl T.z_range (pa_cons pe_int pa_nil)) (pg_name (i := 1) nd rfl (Or.inl rfl))
      (pss_one (ps_if (pt_not (pt_val (pe_call (ok__law_right T) (hr.mono (by decide)) rfl T.m__law_right T.F__law_right.kp T.b__law_right .nil pass0 (pa_cons (pe_call (ok__law_generator T) (hr.mono (by decide)) rfl T.m__law_generator T.F__law_generator.kp T.b__law_generator .nil pass0 (pa_cons (pv 0) (pa_cons (pv 1) pa_nil))) pa_nil)))) (pss_one (ps_ret pe_bl)) pss_nil)))
      (pss_one (ps_ret (pe_and (pe_cmpR (op_eqD hr.units) (pe_call (ok_moved T) (hr.mono (by decide)) rfl T.m_moved T.F_moved.kp T.b_moved .nil pass0 (pa_cons pe_str (pa_cons pe_str (pa_cons (pe_lst (pa_cons pe_int (pa_cons pe_int pa_nil))) pa_nil)))) (pe_lst (pa_cons pe_int (pa_cons pe_int (pa_cons pe_int (pa_cons pe_int (pa_cons pe_int pa_nil)))))) (nomark _)) (pe_one (pe_cmpR (op_eqD hr.units) (pe_call (ok_moved T) (hr.mono (by decide)) rfl T.m_moved T.F_moved.kp T.b_moved .nil pass0 (pa_cons pe_str (pa_cons pe_str (pa_cons (pe_lst pa_nil) pa_nil)))) (pe_lst pa_nil) (nomark _))))))), ?_⟩
    refine ⟨3, rfl, by decide, by decide, ?_⟩
    refine for_range (lo := 0) (n := 3) (fun i σ H' => ∃ v : Option V, σ = [some (.ref a), v] ∧ SqL K H' a (ns.map V.int)) ⟨none, rfl, hS⟩ ?_ ?_
    · rintro i σ H1 hi ⟨v, rfl, hS1⟩
      refine ⟨_, rfl, _, rfl, a, ns, i, (by rw [Int.zero_add]; rfl), hS1, by omega, fun g H2 hg s2 G => ?_⟩
      refine ⟨g, 1000 * i, rfl, G, by omega, fun H3 b3 => ⟨_, rfl, iteF ?_⟩⟩
      exact ⟨_, rfl, (b3.after s2 hg).seq hS1⟩
    · rintro σ H1 ⟨v, rfl, hS1⟩
      refine ⟨(by show 2 ≤ sizeLine; decide), fun p hp => ?_⟩
      refine ⟨[97, 120, 98, 121, 99], [120, 121], [1, 1], p, rfl, upd_same, by decide, by decide, by decide, by decide, by decide, ⟨⟨120, rfl, by decide⟩, ⟨121, rfl, by decide⟩, trivial⟩, fun m H2 hm s2 d2 => ?_⟩
      refine ⟨(by show 5 ≤ sizeLine; decide), fun q hq => ?_⟩
      refine eq_places (ns := [4, 1, 0, 3, 2]) (SqL.of (Same.upd hq _ _ d2)) (SqL.of upd_same) ⟨_, rfl, iteT ?_⟩
      refine ⟨(by show 0 ≤ sizeLine; decide), fun p2 hp2 => ?_⟩
      refine ⟨[], [], [], p2, rfl, upd_same, by decide, by decide, by decide, by decide, by decide, trivial, fun m2 H3 hm2 s3 d3 => ?_⟩
      refine ⟨(by show 0 ≤ sizeLine; decide), fun q2 hq2 => ?_⟩
      exact eq_places (ns := []) (SqL.of (Same.upd hq2 _ _ d3)) (SqL.of upd_same) (k _)
end
theorem all_mk {l : PySem.W.OpenLaw} {w : World} {K : PySem.W.Frag} {h : Heap} {mg : Str → Option Value} {fa : Addr} (X : K.In h) (G : h.Ns mainGlobals mg) (hfa : mg "law" = some (.ref fa))
    {f_is_word : Addr} {od_is_word an_is_word : Option Addr} {sl_is_word : Array (Option Value)} {oc_is_word kV_is_word dc_is_word pm_is_word cd_is_word ct_is_word : Value}
    {f_is_count : Addr} {od_is_count an_is_count : Option Addr} {sl_is_count : Array (Option Value)} {oc_is_count kV_is_count dc_is_count pm_is_count cd_is_count ct_is_count : Value}
    {f__ascends : Addr} {od__ascends an__ascends : Option Addr} {sl__ascends : Array (Option Value)} {oc__ascends kV__ascends dc__ascends pm__ascends cd__ascends ct__ascends : Value}
    {f_letters_priced : Addr} {od_letters_priced an_letters_priced : Option Addr} {sl_letters_priced : Array (Option Value)} {oc_letters_priced kV_letters_priced dc_letters_priced pm_letters_priced cd_letters_priced ct_letters_priced : Value}
    {f_sides_changed : Addr} {od_sides_changed an_sides_changed : Option Addr} {sl_sides_changed : Array (Option Value)} {oc_sides_changed kV_sides_changed dc_sides_changed pm_sides_changed cd_sides_changed ct_sides_changed : Value}
    {f__law_hash : Addr} {od__law_hash an__law_hash : Option Addr} {sl__law_hash : Array (Option Value)} {oc__law_hash kV__law_hash dc__law_hash pm__law_hash cd__law_hash ct__law_hash : Value}
    {f__law_cell : Addr} {od__law_cell an__law_cell : Option Addr} {sl__law_cell : Array (Option Value)} {oc__law_cell kV__law_cell dc__law_cell pm__law_cell cd__law_cell ct__law_cell : Value}
    {f__law_swapped : Addr} {od__law_swapped an__law_swapped : Option Addr} {sl__law_swapped : Array (Option Value)} {oc__law_swapped kV__law_swapped dc__law_swapped pm__law_swapped cd__law_swapped ct__law_swapped : Value}
    {f__law_moved : Addr} {od__law_moved an__law_moved : Option Addr} {sl__law_moved : Array (Option Value)} {oc__law_moved kV__law_moved dc__law_moved pm__law_moved cd__law_moved ct__law_moved : Value}
    {f_is_joints : Addr} {od_is_joints an_is_joints : Option Addr} {sl_is_joints : Array (Option Value)} {oc_is_joints kV_is_joints dc_is_joints pm_is_joints cd_is_joints ct_is_joints : Value}
    {f_is_letter : Addr} {od_is_letter an_is_letter : Option Addr} {sl_is_letter : Array (Option Value)} {oc_is_letter kV_is_letter dc_is_letter pm_is_letter cd_is_letter ct_is_letter : Value}
    {f_check_word : Addr} {od_check_word an_check_word : Option Addr} {sl_check_word : Array (Option Value)} {oc_check_word kV_check_word dc_check_word pm_check_word cd_check_word ct_check_word : Value}
    {f__is_open : Addr} {od__is_open an__is_open : Option Addr} {sl__is_open : Array (Option Value)} {oc__is_open kV__is_open dc__is_open pm__is_open cd__is_open ct__is_open : Value}
    {f_back_road : Addr} {od_back_road an_back_road : Option Addr} {sl_back_road : Array (Option Value)} {oc_back_road kV_back_road dc_back_road pm_back_road cd_back_road ct_back_road : Value}
    {f__law_random : Addr} {od__law_random an__law_random : Option Addr} {sl__law_random : Array (Option Value)} {oc__law_random kV__law_random dc__law_random pm__law_random cd__law_random ct__law_random : Value}
    {f__law_generator : Addr} {od__law_generator an__law_generator : Option Addr} {sl__law_generator : Array (Option Value)} {oc__law_generator kV__law_generator dc__law_generator pm__law_generator cd__law_generator ct__law_generator : Value}
    {f__law_cost : Addr} {od__law_cost an__law_cost : Option Addr} {sl__law_cost : Array (Option Value)} {oc__law_cost kV__law_cost dc__law_cost pm__law_cost cd__law_cost ct__law_cost : Value}
    {f__is_letter_price : Addr} {od__is_letter_price an__is_letter_price : Option Addr} {sl__is_letter_price : Array (Option Value)} {oc__is_letter_price kV__is_letter_price dc__is_letter_price pm__is_letter_price cd__is_letter_price ct__is_letter_price : Value}
    {f_check_joints : Addr} {od_check_joints an_check_joints : Option Addr} {sl_check_joints : Array (Option Value)} {oc_check_joints kV_check_joints dc_check_joints pm_check_joints cd_check_joints ct_check_joints : Value}
    {f__walked : Addr} {od__walked an__walked : Option Addr} {sl__walked : Array (Option Value)} {oc__walked kV__walked dc__walked pm__walked cd__walked ct__walked : Value}
    {f__law_word : Addr} {od__law_word an__law_word : Option Addr} {sl__law_word : Array (Option Value)} {oc__law_word kV__law_word dc__law_word pm__law_word cd__law_word ct__law_word : Value}
    {f__law_letters : Addr} {od__law_letters an__law_letters : Option Addr} {sl__law_letters : Array (Option Value)} {oc__law_letters kV__law_letters dc__law_letters pm__law_letters cd__law_letters ct__law_letters : Value}
    {f__law_joints : Addr} {od__law_joints an__law_joints : Option Addr} {sl__law_joints : Array (Option Value)} {oc__law_joints kV__law_joints dc__law_joints pm__law_joints cd__law_joints ct__law_joints : Value}
    {f__law_road : Addr} {od__law_road an__law_road : Option Addr} {sl__law_road : Array (Option Value)} {oc__law_road kV__law_road dc__law_road pm__law_road cd__law_road ct__law_road : Value}
    {f_is_prices : Addr} {od_is_prices an_is_prices : Option Addr} {sl_is_prices : Array (Option Value)} {oc_is_prices kV_is_prices dc_is_prices pm_is_prices cd_is_prices ct_is_prices : Value}
    {f_passed : Addr} {od_passed an_passed : Option Addr} {sl_passed : Array (Option Value)} {oc_passed kV_passed dc_passed pm_passed cd_passed ct_passed : Value}
    {f_check_prices : Addr} {od_check_prices an_check_prices : Option Addr} {sl_check_prices : Array (Option Value)} {oc_check_prices kV_check_prices dc_check_prices pm_check_prices cd_check_prices ct_check_prices : Value}
    {f_done : Addr} {od_done an_done : Option Addr} {sl_done : Array (Option Value)} {oc_done kV_done dc_done pm_done cd_done ct_done : Value}
    {f_moved : Addr} {od_moved an_moved : Option Addr} {sl_moved : Array (Option Value)} {oc_moved kV_moved dc_moved pm_moved cd_moved ct_moved : Value}
    {f_price_of : Addr} {od_price_of an_price_of : Option Addr} {sl_price_of : Array (Option Value)} {oc_price_of kV_price_of dc_price_of pm_price_of cd_price_of ct_price_of : Value}
    {f__law_right : Addr} {od__law_right an__law_right : Option Addr} {sl__law_right : Array (Option Value)} {oc__law_right kV__law_right dc__law_right pm__law_right cd__law_right ct__law_right : Value}
    {f_law : Addr} {od_law an_law : Option Addr} {sl_law : Array (Option Value)} {oc_law kV_law dc_law pm_law cd_law ct_law : Value}
    (a_is_word : PySem.W.nsIn K mainGlobals "is_word" = some (some (.ref f_is_word))) (l_is_word : K.lookup f_is_word = some ⟨oc_is_word, od_is_word, .func (PySem.W.fnOf "is_word" "is_word" (defArgs s_is_word) (defBody s_is_word) (defScope s_is_word) .none kV_is_word dc_is_word pm_is_word an_is_word cd_is_word ct_is_word), sl_is_word⟩) (c_is_word : PySem.W.codeIn K cd_is_word "is_word" = true) (k_is_word : PySem.W.keepIn K (.ref f_is_word) = true)
    (a_is_count : PySem.W.nsIn K mainGlobals "is_count" = some (some (.ref f_is_count))) (l_is_count : K.lookup f_is_count = some ⟨oc_is_count, od_is_count, .func (PySem.W.fnOf "is_count" "is_count" (defArgs s_is_count) (defBody s_is_count) (defScope s_is_count) .none kV_is_count dc_is_count pm_is_count an_is_count cd_is_count ct_is_count), sl_is_count⟩) (c_is_count : PySem.W.codeIn K cd_is_count "is_count" = true) (k_is_count : PySem.W.keepIn K (.ref f_is_count) = true)
    (a__ascends : PySem.W.nsIn K mainGlobals "_ascends" = some (some (.ref f__ascends))) (l__ascends : K.lookup f__ascends = some ⟨oc__ascends, od__ascends, .func (PySem.W.fnOf "_ascends" "_ascends" (defArgs s__ascends) (defBody s__ascends) (defScope s__ascends) .none kV__ascends dc__ascends pm__ascends an__ascends cd__ascends ct__ascends), sl__ascends⟩) (c__ascends : PySem.W.codeIn K cd__ascends "_ascends" = true) (k__ascends : PySem.W.keepIn K (.ref f__ascends) = true)
    (a_letters_priced : PySem.W.nsIn K mainGlobals "letters_priced" = some (some (.ref f_letters_priced))) (l_letters_priced : K.lookup f_letters_priced = some ⟨oc_letters_priced, od_letters_priced, .func (PySem.W.fnOf "letters_priced" "letters_priced" (defArgs s_letters_priced) (defBody s_letters_priced) (defScope s_letters_priced) .none kV_letters_priced dc_letters_priced pm_letters_priced an_letters_priced cd_letters_priced ct_letters_priced), sl_letters_priced⟩) (c_letters_priced : PySem.W.codeIn K cd_letters_priced "letters_priced" = true) (k_letters_priced : PySem.W.keepIn K (.ref f_letters_priced) = true)
    (a_sides_changed : PySem.W.nsIn K mainGlobals "sides_changed" = some (some (.ref f_sides_changed))) (l_sides_changed : K.lookup f_sides_changed = some ⟨oc_sides_changed, od_sides_changed, .func (PySem.W.fnOf "sides_changed" "sides_changed" (defArgs s_sides_changed) (defBody s_sides_changed) (defScope s_sides_changed) .none kV_sides_changed dc_sides_changed pm_sides_changed an_sides_changed cd_sides_changed ct_sides_changed), sl_sides_changed⟩) (c_sides_changed : PySem.W.codeIn K cd_sides_changed "sides_changed" = true) (k_sides_changed : PySem.W.keepIn K (.ref f_sides_changed) = true)
    (a__law_hash : PySem.W.nsIn K mainGlobals "_law_hash" = some (some (.ref f__law_hash))) (l__law_hash : K.lookup f__law_hash = some ⟨oc__law_hash, od__law_hash, .func (PySem.W.fnOf "_law_hash" "_law_hash" (defArgs s__law_hash) (defBody s__law_hash) (defScope s__law_hash) .none kV__law_hash dc__law_hash pm__law_hash an__law_hash cd__law_hash ct__law_hash), sl__law_hash⟩) (c__law_hash : PySem.W.codeIn K cd__law_hash "_law_hash" = true) (k__law_hash : PySem.W.keepIn K (.ref f__law_hash) = true)
    (a__law_cell : PySem.W.nsIn K mainGlobals "_law_cell" = some (some (.ref f__law_cell))) (l__law_cell : K.lookup f__law_cell = some ⟨oc__law_cell, od__law_cell, .func (PySem.W.fnOf "_law_cell" "_law_cell" (defArgs s__law_cell) (defBody s__law_cell) (defScope s__law_cell) .none kV__law_cell dc__law_cell pm__law_cell an__law_cell cd__law_cell ct__law_cell), sl__law_cell⟩) (c__law_cell : PySem.W.codeIn K cd__law_cell "_law_cell" = true) (k__law_cell : PySem.W.keepIn K (.ref f__law_cell) = true)
    (a__law_swapped : PySem.W.nsIn K mainGlobals "_law_swapped" = some (some (.ref f__law_swapped))) (l__law_swapped : K.lookup f__law_swapped = some ⟨oc__law_swapped, od__law_swapped, .func (PySem.W.fnOf "_law_swapped" "_law_swapped" (defArgs s__law_swapped) (defBody s__law_swapped) (defScope s__law_swapped) .none kV__law_swapped dc__law_swapped pm__law_swapped an__law_swapped cd__law_swapped ct__law_swapped), sl__law_swapped⟩) (c__law_swapped : PySem.W.codeIn K cd__law_swapped "_law_swapped" = true) (k__law_swapped : PySem.W.keepIn K (.ref f__law_swapped) = true)
    (a__law_moved : PySem.W.nsIn K mainGlobals "_law_moved" = some (some (.ref f__law_moved))) (l__law_moved : K.lookup f__law_moved = some ⟨oc__law_moved, od__law_moved, .func (PySem.W.fnOf "_law_moved" "_law_moved" (defArgs s__law_moved) (defBody s__law_moved) (defScope s__law_moved) .none kV__law_moved dc__law_moved pm__law_moved an__law_moved cd__law_moved ct__law_moved), sl__law_moved⟩) (c__law_moved : PySem.W.codeIn K cd__law_moved "_law_moved" = true) (k__law_moved : PySem.W.keepIn K (.ref f__law_moved) = true)
    (a_is_joints : PySem.W.nsIn K mainGlobals "is_joints" = some (some (.ref f_is_joints))) (l_is_joints : K.lookup f_is_joints = some ⟨oc_is_joints, od_is_joints, .func (PySem.W.fnOf "is_joints" "is_joints" (defArgs s_is_joints) (defBody s_is_joints) (defScope s_is_joints) .none kV_is_joints dc_is_joints pm_is_joints an_is_joints cd_is_joints ct_is_joints), sl_is_joints⟩) (c_is_joints : PySem.W.codeIn K cd_is_joints "is_joints" = true) (k_is_joints : PySem.W.keepIn K (.ref f_is_joints) = true)
    (a_is_letter : PySem.W.nsIn K mainGlobals "is_letter" = some (some (.ref f_is_letter))) (l_is_letter : K.lookup f_is_letter = some ⟨oc_is_letter, od_is_letter, .func (PySem.W.fnOf "is_letter" "is_letter" (defArgs s_is_letter) (defBody s_is_letter) (defScope s_is_letter) .none kV_is_letter dc_is_letter pm_is_letter an_is_letter cd_is_letter ct_is_letter), sl_is_letter⟩) (c_is_letter : PySem.W.codeIn K cd_is_letter "is_letter" = true) (k_is_letter : PySem.W.keepIn K (.ref f_is_letter) = true)
    (a_check_word : PySem.W.nsIn K mainGlobals "check_word" = some (some (.ref f_check_word))) (l_check_word : K.lookup f_check_word = some ⟨oc_check_word, od_check_word, .func (PySem.W.fnOf "check_word" "check_word" (defArgs s_check_word) (defBody s_check_word) (defScope s_check_word) .none kV_check_word dc_check_word pm_check_word an_check_word cd_check_word ct_check_word), sl_check_word⟩) (c_check_word : PySem.W.codeIn K cd_check_word "check_word" = true) (k_check_word : PySem.W.keepIn K (.ref f_check_word) = true)
    (a__is_open : PySem.W.nsIn K mainGlobals "_is_open" = some (some (.ref f__is_open))) (l__is_open : K.lookup f__is_open = some ⟨oc__is_open, od__is_open, .func (PySem.W.fnOf "_is_open" "_is_open" (defArgs s__is_open) (defBody s__is_open) (defScope s__is_open) .none kV__is_open dc__is_open pm__is_open an__is_open cd__is_open ct__is_open), sl__is_open⟩) (c__is_open : PySem.W.codeIn K cd__is_open "_is_open" = true) (k__is_open : PySem.W.keepIn K (.ref f__is_open) = true)
    (a_back_road : PySem.W.nsIn K mainGlobals "back_road" = some (some (.ref f_back_road))) (l_back_road : K.lookup f_back_road = some ⟨oc_back_road, od_back_road, .func (PySem.W.fnOf "back_road" "back_road" (defArgs s_back_road) (defBody s_back_road) (defScope s_back_road) .none kV_back_road dc_back_road pm_back_road an_back_road cd_back_road ct_back_road), sl_back_road⟩) (c_back_road : PySem.W.codeIn K cd_back_road "back_road" = true) (k_back_road : PySem.W.keepIn K (.ref f_back_road) = true)
    (a__law_random : PySem.W.nsIn K mainGlobals "_law_random" = some (some (.ref f__law_random))) (l__law_random : K.lookup f__law_random = some ⟨oc__law_random, od__law_random, .func (PySem.W.fnOf "_law_random" "_law_random" (defArgs s__law_random) (defBody s__law_random) (defScope s__law_random) .none kV__law_random dc__law_random pm__law_random an__law_random cd__law_random ct__law_random), sl__law_random⟩) (c__law_random : PySem.W.codeIn K cd__law_random "_law_random" = true) (k__law_random : PySem.W.keepIn K (.ref f__law_random) = true)
    (a__law_generator : PySem.W.nsIn K mainGlobals "_law_generator" = some (some (.ref f__law_generator))) (l__law_generator : K.lookup f__law_generator = some ⟨oc__law_generator, od__law_generator, .func (PySem.W.fnOf "_law_generator" "_law_generator" (defArgs s__law_generator) (defBody s__law_generator) (defScope s__law_generator) .none kV__law_generator dc__law_generator pm__law_generator an__law_generator cd__law_generator ct__law_generator), sl__law_generator⟩) (c__law_generator : PySem.W.codeIn K cd__law_generator "_law_generator" = true) (k__law_generator : PySem.W.keepIn K (.ref f__law_generator) = true)
    (a__law_cost : PySem.W.nsIn K mainGlobals "_law_cost" = some (some (.ref f__law_cost))) (l__law_cost : K.lookup f__law_cost = some ⟨oc__law_cost, od__law_cost, .func (PySem.W.fnOf "_law_cost" "_law_cost" (defArgs s__law_cost) (defBody s__law_cost) (defScope s__law_cost) .none kV__law_cost dc__law_cost pm__law_cost an__law_cost cd__law_cost ct__law_cost), sl__law_cost⟩) (c__law_cost : PySem.W.codeIn K cd__law_cost "_law_cost" = true) (k__law_cost : PySem.W.keepIn K (.ref f__law_cost) = true)
    (a__is_letter_price : PySem.W.nsIn K mainGlobals "_is_letter_price" = some (some (.ref f__is_letter_price))) (l__is_letter_price : K.lookup f__is_letter_price = some ⟨oc__is_letter_price, od__is_letter_price, .func (PySem.W.fnOf "_is_letter_price" "_is_letter_price" (defArgs s__is_letter_price) (defBody s__is_letter_price) (defScope s__is_letter_price) .none kV__is_letter_price dc__is_letter_price pm__is_letter_price an__is_letter_price cd__is_letter_price ct__is_letter_price), sl__is_letter_price⟩) (c__is_letter_price : PySem.W.codeIn K cd__is_letter_price "_is_letter_price" = true) (k__is_letter_price : PySem.W.keepIn K (.ref f__is_letter_price) = true)
    (a_check_joints : PySem.W.nsIn K mainGlobals "check_joints" = some (some (.ref f_check_joints))) (l_check_joints : K.lookup f_check_joints = some ⟨oc_check_joints, od_check_joints, .func (PySem.W.fnOf "check_joints" "check_joints" (defArgs s_check_joints) (defBody s_check_joints) (defScope s_check_joints) .none kV_check_joints dc_check_joints pm_check_joints an_check_joints cd_check_joints ct_check_joints), sl_check_joints⟩) (c_check_joints : PySem.W.codeIn K cd_check_joints "check_joints" = true) (k_check_joints : PySem.W.keepIn K (.ref f_check_joints) = true)
    (a__walked : PySem.W.nsIn K mainGlobals "_walked" = some (some (.ref f__walked))) (l__walked : K.lookup f__walked = some ⟨oc__walked, od__walked, .func (PySem.W.fnOf "_walked" "_walked" (defArgs s__walked) (defBody s__walked) (defScope s__walked) .none kV__walked dc__walked pm__walked an__walked cd__walked ct__walked), sl__walked⟩) (c__walked : PySem.W.codeIn K cd__walked "_walked" = true) (k__walked : PySem.W.keepIn K (.ref f__walked) = true)
    (a__law_word : PySem.W.nsIn K mainGlobals "_law_word" = some (some (.ref f__law_word))) (l__law_word : K.lookup f__law_word = some ⟨oc__law_word, od__law_word, .func (PySem.W.fnOf "_law_word" "_law_word" (defArgs s__law_word) (defBody s__law_word) (defScope s__law_word) .none kV__law_word dc__law_word pm__law_word an__law_word cd__law_word ct__law_word), sl__law_word⟩) (c__law_word : PySem.W.codeIn K cd__law_word "_law_word" = true) (k__law_word : PySem.W.keepIn K (.ref f__law_word) = true)
    (a__law_letters : PySem.W.nsIn K mainGlobals "_law_letters" = some (some (.ref f__law_letters))) (l__law_letters : K.lookup f__law_letters = some ⟨oc__law_letters, od__law_letters, .func (PySem.W.fnOf "_law_letters" "_law_letters" (defArgs s__law_letters) (defBody s__law_letters) (defScope s__law_letters) .none kV__law_letters dc__law_letters pm__law_letters an__law_letters cd__law_letters ct__law_letters), sl__law_letters⟩) (c__law_letters : PySem.W.codeIn K cd__law_letters "_law_letters" = true) (k__law_letters : PySem.W.keepIn K (.ref f__law_letters) = true)
    (a__law_joints : PySem.W.nsIn K mainGlobals "_law_joints" = some (some (.ref f__law_joints))) (l__law_joints : K.lookup f__law_joints = some ⟨oc__law_joints, od__law_joints, .func (PySem.W.fnOf "_law_joints" "_law_joints" (defArgs s__law_joints) (defBody s__law_joints) (defScope s__law_joints) .none kV__law_joints dc__law_joints pm__law_joints an__law_joints cd__law_joints ct__law_joints), sl__law_joints⟩) (c__law_joints : PySem.W.codeIn K cd__law_joints "_law_joints" = true) (k__law_joints : PySem.W.keepIn K (.ref f__law_joints) = true)
    (a__law_road : PySem.W.nsIn K mainGlobals "_law_road" = some (some (.ref f__law_road))) (l__law_road : K.lookup f__law_road = some ⟨oc__law_road, od__law_road, .func (PySem.W.fnOf "_law_road" "_law_road" (defArgs s__law_road) (defBody s__law_road) (defScope s__law_road) .none kV__law_road dc__law_road pm__law_road an__law_road cd__law_road ct__law_road), sl__law_road⟩) (c__law_road : PySem.W.codeIn K cd__law_road "_law_road" = true) (k__law_road : PySem.W.keepIn K (.ref f__law_road) = true)
    (a_is_prices : PySem.W.nsIn K mainGlobals "is_prices" = some (some (.ref f_is_prices))) (l_is_prices : K.lookup f_is_prices = some ⟨oc_is_prices, od_is_prices, .func (PySem.W.fnOf "is_prices" "is_prices" (defArgs s_is_prices) (defBody s_is_prices) (defScope s_is_prices) .none kV_is_prices dc_is_prices pm_is_prices an_is_prices cd_is_prices ct_is_prices), sl_is_prices⟩) (c_is_prices : PySem.W.codeIn K cd_is_prices "is_prices" = true) (k_is_prices : PySem.W.keepIn K (.ref f_is_prices) = true)
    (a_passed : PySem.W.nsIn K mainGlobals "passed" = some (some (.ref f_passed))) (l_passed : K.lookup f_passed = some ⟨oc_passed, od_passed, .func (PySem.W.fnOf "passed" "passed" (defArgs s_passed) (defBody s_passed) (defScope s_passed) .none kV_passed dc_passed pm_passed an_passed cd_passed ct_passed), sl_passed⟩) (c_passed : PySem.W.codeIn K cd_passed "passed" = true) (k_passed : PySem.W.keepIn K (.ref f_passed) = true)
    (a_check_prices : PySem.W.nsIn K mainGlobals "check_prices" = some (some (.ref f_check_prices))) (l_check_prices : K.lookup f_check_prices = some ⟨oc_check_prices, od_check_prices, .func (PySem.W.fnOf "check_prices" "check_prices" (defArgs s_check_prices) (defBody s_check_prices) (defScope s_check_prices) .none kV_check_prices dc_check_prices pm_check_prices an_check_prices cd_check_prices ct_check_prices), sl_check_prices⟩) (c_check_prices : PySem.W.codeIn K cd_check_prices "check_prices" = true) (k_check_prices : PySem.W.keepIn K (.ref f_check_prices) = true)
    (a_done : PySem.W.nsIn K mainGlobals "done" = some (some (.ref f_done))) (l_done : K.lookup f_done = some ⟨oc_done, od_done, .func (PySem.W.fnOf "done" "done" (defArgs s_done) (defBody s_done) (defScope s_done) .none kV_done dc_done pm_done an_done cd_done ct_done), sl_done⟩) (c_done : PySem.W.codeIn K cd_done "done" = true) (k_done : PySem.W.keepIn K (.ref f_done) = true)
    (a_moved : PySem.W.nsIn K mainGlobals "moved" = some (some (.ref f_moved))) (l_moved : K.lookup f_moved = some ⟨oc_moved, od_moved, .func (PySem.W.fnOf "moved" "moved" (defArgs s_moved) (defBody s_moved) (defScope s_moved) .none kV_moved dc_moved pm_moved an_moved cd_moved ct_moved), sl_moved⟩) (c_moved : PySem.W.codeIn K cd_moved "moved" = true) (k_moved : PySem.W.keepIn K (.ref f_moved) = true)
    (a_price_of : PySem.W.nsIn K mainGlobals "price_of" = some (some (.ref f_price_of))) (l_price_of : K.lookup f_price_of = some ⟨oc_price_of, od_price_of, .func (PySem.W.fnOf "price_of" "price_of" (defArgs s_price_of) (defBody s_price_of) (defScope s_price_of) .none kV_price_of dc_price_of pm_price_of an_price_of cd_price_of ct_price_of), sl_price_of⟩) (c_price_of : PySem.W.codeIn K cd_price_of "price_of" = true) (k_price_of : PySem.W.keepIn K (.ref f_price_of) = true)
    (a__law_right : PySem.W.nsIn K mainGlobals "_law_right" = some (some (.ref f__law_right))) (l__law_right : K.lookup f__law_right = some ⟨oc__law_right, od__law_right, .func (PySem.W.fnOf "_law_right" "_law_right" (defArgs s__law_right) (defBody s__law_right) (defScope s__law_right) .none kV__law_right dc__law_right pm__law_right an__law_right cd__law_right ct__law_right), sl__law_right⟩) (c__law_right : PySem.W.codeIn K cd__law_right "_law_right" = true) (k__law_right : PySem.W.keepIn K (.ref f__law_right) = true)
    (a_law : PySem.W.nsIn K mainGlobals "law" = some (some (.ref f_law))) (l_law : K.lookup f_law = some ⟨oc_law, od_law, .func (PySem.W.fnOf "law" "law" (defArgs s_law) (defBody s_law) (defScope s_law) .none kV_law dc_law pm_law an_law cd_law ct_law), sl_law⟩) (c_law : PySem.W.codeIn K cd_law "law" = true) (k_law : PySem.W.keepIn K (.ref f_law) = true)
    {t_LONGEST : Tok} (g_LONGEST : PySem.W.nsIn K mainGlobals "LONGEST" = some (some (.int 300 t_LONGEST)))
    (z_all : PySem.W.nsIn K mainGlobals "all" = some none)
    (z_bool : PySem.W.nsIn K mainGlobals "bool" = some none)
    (z_dict : PySem.W.nsIn K mainGlobals "dict" = some none)
    (z_int : PySem.W.nsIn K mainGlobals "int" = some none)
    (z_isinstance : PySem.W.nsIn K mainGlobals "isinstance" = some none)
    (z_len : PySem.W.nsIn K mainGlobals "len" = some none)
    (z_list : PySem.W.nsIn K mainGlobals "list" = some none)
    (z_max : PySem.W.nsIn K mainGlobals "max" = some none)
    (z_range : PySem.W.nsIn K mainGlobals "range" = some none)
    (z_reversed : PySem.W.nsIn K mainGlobals "reversed" = some none)
    (z_str : PySem.W.nsIn K mainGlobals "str" = some none)
    (z_sum : PySem.W.nsIn K mainGlobals "sum" = some none)
    (z_tuple : PySem.W.nsIn K mainGlobals "tuple" = some none)
    (z_zip : PySem.W.nsIn K mainGlobals "zip" = some none) :
    ∃ fd : FuncData, (∀ (s : Shared) (v : Value), BindsTo s fd ⟨[v], []⟩ [("_law_script", v)]) ∧ ∀ base : Heap, K.In base → base.Ns mainGlobals mg → FnOk l.prog w K mg base CX0 8 fa fd ["_law_script"] (sp_law K) := by
  have e := hfa.symm.trans (PySem.W.mg_of X G a_law)
  cases e
  have F_is_word := fun_mk (st := s_is_word) l_is_word c_is_word k_is_word
  have b_is_word := F_is_word.binds (ps := P_is_word) fun _ _ _ _ _ _ us hl => match us, hl with | [_], _ => rfl
  have F_is_count := fun_mk (st := s_is_count) l_is_count c_is_count k_is_count
  have b_is_count := F_is_count.binds (ps := P_is_count) fun _ _ _ _ _ _ us hl => match us, hl with | [_], _ => rfl
  have F__ascends := fun_mk (st := s__ascends) l__ascends c__ascends k__ascends
  have b__ascends := F__ascends.binds (ps := P__ascends) fun _ _ _ _ _ _ us hl => match us, hl with | [_], _ => rfl
  have F_letters_priced := fun_mk (st := s_letters_priced) l_letters_priced c_letters_priced k_letters_priced
  have b_letters_priced := F_letters_priced.binds (ps := P_letters_priced) fun _ _ _ _ _ _ us hl => match us, hl with | [_], _ => rfl
  have F_sides_changed := fun_mk (st := s_sides_changed) l_sides_changed c_sides_changed k_sides_changed
  have b_sides_changed := F_sides_changed.binds (ps := P_sides_changed) fun _ _ _ _ _ _ us hl => match us, hl with | [_, _], _ => rfl
  have F__law_hash := fun_mk (st := s__law_hash) l__law_hash c__law_hash k__law_hash
  have b__law_hash := F__law_hash.binds (ps := P__law_hash) fun _ _ _ _ _ _ us hl => match us, hl with | [_, _], _ => rfl
  have F__law_cell := fun_mk (st := s__law_cell) l__law_cell c__law_cell k__law_cell
  have b__law_cell := F__law_cell.binds (ps := P__law_cell) fun _ _ _ _ _ _ us hl => match us, hl with | [_, _], _ => rfl
  have F__law_swapped := fun_mk (st := s__law_swapped) l__law_swapped c__law_swapped k__law_swapped
  have b__law_swapped := F__law_swapped.binds (ps := P__law_swapped) fun _ _ _ _ _ _ us hl => match us, hl with | [_, _], _ => rfl
  have F__law_moved := fun_mk (st := s__law_moved) l__law_moved c__law_moved k__law_moved
  have b__law_moved := F__law_moved.binds (ps := P__law_moved) fun _ _ _ _ _ _ us hl => match us, hl with | [_, _], _ => rfl
  have F_is_joints := fun_mk (st := s_is_joints) l_is_joints c_is_joints k_is_joints
  have b_is_joints := F_is_joints.binds (ps := P_is_joints) fun _ _ _ _ _ _ us hl => match us, hl with | [_], _ => rfl
  have F_is_letter := fun_mk (st := s_is_letter) l_is_letter c_is_letter k_is_letter
  have b_is_letter := F_is_letter.binds (ps := P_is_letter) fun _ _ _ _ _ _ us hl => match us, hl with | [_], _ => rfl
  have F_check_word := fun_mk (st := s_check_word) l_check_word c_check_word k_check_word
  have b_check_word := F_check_word.binds (ps := P_check_word) fun _ _ _ _ _ _ us hl => match us, hl with | [_], _ => rfl
  have F__is_open := fun_mk (st := s__is_open) l__is_open c__is_open k__is_open
  have b__is_open := F__is_open.binds (ps := P__is_open) fun _ _ _ _ _ _ us hl => match us, hl with | [_, _, _], _ => rfl
  have F_back_road := fun_mk (st := s_back_road) l_back_road c_back_road k_back_road
  have b_back_road := F_back_road.binds (ps := P_back_road) fun _ _ _ _ _ _ us hl => match us, hl with | [_, _], _ => rfl
  have F__law_random := fun_mk (st := s__law_random) l__law_random c__law_random k__law_random
  have b__law_random := F__law_random.binds (ps := P__law_random) fun _ _ _ _ _ _ us hl => match us, hl with | [_, _], _ => rfl
  have F__law_generator := fun_mk (st := s__law_generator) l__law_generator c__law_generator k__law_generator
  have b__law_generator := F__law_generator.binds (ps := P__law_generator) fun _ _ _ _ _ _ us hl => match us, hl with | [_, _], _ => rfl
  have F__law_cost := fun_mk (st := s__law_cost) l__law_cost c__law_cost k__law_cost
  have b__law_cost := F__law_cost.binds (ps := P__law_cost) fun _ _ _ _ _ _ us hl => match us, hl with | [_, _, _], _ => rfl
  have F__is_letter_price := fun_mk (st := s__is_letter_price) l__is_letter_price c__is_letter_price k__is_letter_price
  have b__is_letter_price := F__is_letter_price.binds (ps := P__is_letter_price) fun _ _ _ _ _ _ us hl => match us, hl with | [_], _ => rfl
  have F_check_joints := fun_mk (st := s_check_joints) l_check_joints c_check_joints k_check_joints
  have b_check_joints := F_check_joints.binds (ps := P_check_joints) fun _ _ _ _ _ _ us hl => match us, hl with | [_], _ => rfl
  have F__walked := fun_mk (st := s__walked) l__walked c__walked k__walked
  have b__walked := F__walked.binds (ps := P__walked) fun _ _ _ _ _ _ us hl => match us, hl with | [_, _, _], _ => rfl
  have F__law_word := fun_mk (st := s__law_word) l__law_word c__law_word k__law_word
  have b__law_word := F__law_word.binds (ps := P__law_word) fun _ _ _ _ _ _ us hl => match us, hl with | [_, _, _], _ => rfl
  have F__law_letters := fun_mk (st := s__law_letters) l__law_letters c__law_letters k__law_letters
  have b__law_letters := F__law_letters.binds (ps := P__law_letters) fun _ _ _ _ _ _ us hl => match us, hl with | [_, _, _], _ => rfl
  have F__law_joints := fun_mk (st := s__law_joints) l__law_joints c__law_joints k__law_joints
  have b__law_joints := F__law_joints.binds (ps := P__law_joints) fun _ _ _ _ _ _ us hl => match us, hl with | [_, _], _ => rfl
  have F__law_road := fun_mk (st := s__law_road) l__law_road c__law_road k__law_road
  have b__law_road := F__law_road.binds (ps := P__law_road) fun _ _ _ _ _ _ us hl => match us, hl with | [_, _, _, _], _ => rfl
  have F_is_prices := fun_mk (st := s_is_prices) l_is_prices c_is_prices k_is_prices
  have b_is_prices := F_is_prices.binds (ps := P_is_prices) fun _ _ _ _ _ _ us hl => match us, hl with | [_], _ => rfl
  have F_passed := fun_mk (st := s_passed) l_passed c_passed k_passed
  have b_passed := F_passed.binds (ps := P_passed) fun _ _ _ _ _ _ us hl => match us, hl with | [_, _, _], _ => rfl
  have F_check_prices := fun_mk (st := s_check_prices) l_check_prices c_check_prices k_check_prices
  have b_check_prices := F_check_prices.binds (ps := P_check_prices) fun _ _ _ _ _ _ us hl => match us, hl with | [_], _ => rfl
  have F_done := fun_mk (st := s_done) l_done c_done k_done
  have b_done := F_done.binds (ps := P_done) fun _ _ _ _ _ _ us hl => match us, hl with | [_, _, _], _ => rfl
  have F_moved := fun_mk (st := s_moved) l_moved c_moved k_moved
  have b_moved := F_moved.binds (ps := P_moved) fun _ _ _ _ _ _ us hl => match us, hl with | [_, _, _], _ => rfl
  have F_price_of := fun_mk (st := s_price_of) l_price_of c_price_of k_price_of
  have b_price_of := F_price_of.binds (ps := P_price_of) fun _ _ _ _ _ _ us hl => match us, hl with | [_, _, _], _ => rfl
  have F__law_right := fun_mk (st := s__law_right) l__law_right c__law_right k__law_right
  have b__law_right := F__law_right.binds (ps := P__law_right) fun _ _ _ _ _ _ us hl => match us, hl with | [_], _ => rfl
  have F_law := fun_mk (st := s_law) l_law c_law k_law
  have b_law := F_law.binds (ps := P_law) fun _ _ _ _ _ _ us hl => match us, hl with | [_], _ => rfl
  let T : Txt K mg := { f_is_word := _, fd_is_word := _, F_is_word := F_is_word, m_is_word := PySem.W.mg_of X G a_is_word, b_is_word := b_is_word, f_is_count := _, fd_is_count := _, F_is_count := F_is_count, m_is_count := PySem.W.mg_of X G a_is_count, b_is_count := b_is_count, f__ascends := _, fd__ascends := _, F__ascends := F__ascends, m__ascends := PySem.W.mg_of X G a__ascends, b__ascends := b__ascends, f_letters_priced := _, fd_letters_priced := _, F_letters_priced := F_letters_priced, m_letters_priced := PySem.W.mg_of X G a_letters_priced, b_letters_priced := b_letters_priced, f_sides_changed := _, fd_sides_changed := _, F_sides_changed := F_sides_changed, m_sides_changed := PySem.W.mg_of X G a_sides_changed, b_sides_changed := b_sides_changed, f__law_hash := _, fd__law_hash := _, F__law_hash := F__law_hash, m__law_hash := PySem.W.mg_of X G a__law_hash, b__law_hash := b__law_hash, f__law_cell := _, fd__law_cell := _, F__law_cell := F__law_cell, m__law_cell := PySem.W.mg_of X G a__law_cell, b__law_cell := b__law_cell, f__law_swapped := _, fd__law_swapped := _, F__law_swapped := F__law_swapped, m__law_swapped := PySem.W.mg_of X G a__law_swapped, b__law_swapped := b__law_swapped, f__law_moved := _, fd__law_moved := _, F__law_moved := F__law_moved, m__law_moved := PySem.W.mg_of X G a__law_moved, b__law_moved := b__law_moved, f_is_joints := _, fd_is_joints := _, F_is_joints := F_is_joints, m_is_joints := PySem.W.mg_of X G a_is_joints, b_is_joints := b_is_joints, f_is_letter := _, fd_is_letter := _, F_is_letter := F_is_letter, m_is_letter := PySem.W.mg_of X G a_is_letter, b_is_letter := b_is_letter, f_check_word := _, fd_check_word := _, F_check_word := F_check_word, m_check_word := PySem.W.mg_of X G a_check_word, b_check_word := b_check_word, f__is_open := _, fd__is_open := _, F__is_open := F__is_open, m__is_open := PySem.W.mg_of X G a__is_open, b__is_open := b__is_open, f_back_road := _, fd_back_road := _, F_back_road := F_back_road, m_back_road := PySem.W.mg_of X G a_back_road, b_back_road := b_back_road, f__law_random := _, fd__law_random := _, F__law_random := F__law_random, m__law_random := PySem.W.mg_of X G a__law_random, b__law_random := b__law_random, f__law_generator := _, fd__law_generator := _, F__law_generator := F__law_generator, m__law_generator := PySem.W.mg_of X G a__law_generator, b__law_generator := b__law_generator, f__law_cost := _, fd__law_cost := _, F__law_cost := F__law_cost, m__law_cost := PySem.W.mg_of X G a__law_cost, b__law_cost := b__law_cost, f__is_letter_price := _, fd__is_letter_price := _, F__is_letter_price := F__is_letter_price, m__is_letter_price := PySem.W.mg_of X G a__is_letter_price, b__is_letter_price := b__is_letter_price, f_check_joints := _, fd_check_joints := _, F_check_joints := F_check_joints, m_check_joints := PySem.W.mg_of X G a_check_joints, b_check_joints := b_check_joints, f__walked := _, fd__walked := _, F__walked := F__walked, m__walked := PySem.W.mg_of X G a__walked, b__walked := b__walked, f__law_word := _, fd__law_word := _, F__law_word := F__law_word, m__law_word := PySem.W.mg_of X G a__law_word, b__law_word := b__law_word, f__law_letters := _, fd__law_letters := _, F__law_letters := F__law_letters, m__law_letters := PySem.W.mg_of X G a__law_letters, b__law_letters := b__law_letters, f__law_joints := _, fd__law_joints := _, F__law_joints := F__law_joints, m__law_joints := PySem.W.mg_of X G a__law_joints, b__law_joints := b__law_joints, f__law_road := _, fd__law_road := _, F__law_road := F__law_road, m__law_road := PySem.W.mg_of X G a__law_road, b__law_road := b__law_road, f_is_prices := _, fd_is_prices := _, F_is_prices := F_is_prices, m_is_prices := PySem.W.mg_of X G a_is_prices, b_is_prices := b_is_prices, f_passed := _, fd_passed := _, F_passed := F_passed, m_passed := PySem.W.mg_of X G a_passed, b_passed := b_passed, f_check_prices := _, fd_check_prices := _, F_check_prices := F_check_prices, m_check_prices := PySem.W.mg_of X G a_check_prices, b_check_prices := b_check_prices, f_done := _, fd_done := _, F_done := F_done, m_done := PySem.W.mg_of X G a_done, b_done := b_done, f_moved := _, fd_moved := _, F_moved := F_moved, m_moved := PySem.W.mg_of X G a_moved, b_moved := b_moved, f_price_of := _, fd_price_of := _, F_price_of := F_price_of, m_price_of := PySem.W.mg_of X G a_price_of, b_price_of := b_price_of, f__law_right := _, fd__law_right := _, F__law_right := F__law_right, m__law_right := PySem.W.mg_of X G a__law_right, b__law_right := b__law_right, f_law := _, fd_law := _, F_law := F_law, m_law := PySem.W.mg_of X G a_law, b_law := b_law, g_LONGEST := ⟨_, PySem.W.mg_of X G g_LONGEST⟩, z_all := PySem.W.mg_none_of X G z_all, z_bool := PySem.W.mg_none_of X G z_bool, z_dict := PySem.W.mg_none_of X G z_dict, z_int := PySem.W.mg_none_of X G z_int, z_isinstance := PySem.W.mg_none_of X G z_isinstance, z_len := PySem.W.mg_none_of X G z_len, z_list := PySem.W.mg_none_of X G z_list, z_max := PySem.W.mg_none_of X G z_max, z_range := PySem.W.mg_none_of X G z_range, z_reversed := PySem.W.mg_none_of X G z_reversed, z_str := PySem.W.mg_none_of X G z_str, z_sum := PySem.W.mg_none_of X G z_sum, z_tuple := PySem.W.mg_none_of X G z_tuple, z_zip := PySem.W.mg_none_of X G z_zip }
  exact ⟨PySem.W.fnOf "law" "law" (defArgs s_law) (defBody s_law) (defScope s_law) .none kV_law dc_law pm_law an_law cd_law ct_law, fun s v => .of_eq rfl, fun base _ _ => ok_law T⟩
theorem walk {l : PySem.W.OpenLaw} {q : Program} {loose : List Str} {XP : (Str → Option Value) → Heap → Prop} {YP : World → Heap → Prop} {d : DefRec} {K : Params → PySem.W.Frag} (hn : l.most = some 63) (hdf : d.params.defaults = [])
    (hY : ∀ (w : World) (h : Heap), YP w h → (K w.params).In h)
    (F : ∀ (w : World) (mg : Str → Option Value) (fa : Addr) (h : Heap), (K w.params).In h → h.Ns mainGlobals mg → mg d.name = some (.ref fa) →
      ∃ fd : FuncData, (∀ (s : Shared) (u : Value), BindsTo s fd ⟨[u], []⟩ [("_law_script", u)]) ∧ ∀ base : Heap, (K w.params).In base → base.Ns mainGlobals mg → FnOk l.prog w (K w.params) mg base CX0 8 fa fd ["_law_script"] (sp_law (K w.params))) :
    PySem.W.WalkO q loose XP YP l.row.toRowW d [] (fun f vs => PySem.call f vs) :=
  L2.walk_of (n := 63) (k := 8) (x := "_law_script") (CX := fun _ => CX0) (sp := fun w => sp_law (K w.params)) hn (by decide) hdf ⟨rfl, by decide, by decide⟩ hY F (fun _ _ a ns hl _ hS => ⟨a, ns, rfl, hS, hl, fun _ => rfl⟩) fun _ _ _ _ _ z => z
end K04
open PySem PySem.W PyProof.Rows
set_option maxRecDepth 100000 in
set_option maxHeartbeats 0 in
theorem PySem.Challenge.cw_sideswaps_k04_whole_moved_letters_and_pr_holds : PySem.Challenge.rw_sideswaps_k04_whole_moved_letters_and_pr.Holds := by
  w_on; o_law; k_head; (case hw => w_witness2)
  k_fill
  refine K04.walk (l := PySem.Challenge.rw_sideswaps_k04_whole_moved_letters_and_pr) rfl rfl (fun w h Y => PySem.W.kIn_of Y) ?F
  case F =>
    intro w mg fa h KX G hmg
    refine' K04.all_mk KX G hmg ?a_is_word ?l_is_word ?c_is_word ?k_is_word ?a_is_count ?l_is_count ?c_is_count ?k_is_count ?a__ascends ?l__ascends ?c__ascends ?k__ascends ?a_letters_priced ?l_letters_priced ?c_letters_priced ?k_letters_priced ?a_sides_changed ?l_sides_changed ?c_sides_changed ?k_sides_changed ?a__law_hash ?l__law_hash ?c__law_hash ?k__law_hash ?a__law_cell ?l__law_cell ?c__law_cell ?k__law_cell ?a__law_swapped ?l__law_swapped ?c__law_swapped ?k__law_swapped ?a__law_moved ?l__law_moved ?c__law_moved ?k__law_moved ?a_is_joints ?l_is_joints ?c_is_joints ?k_is_joints ?a_is_letter ?l_is_letter ?c_is_letter ?k_is_letter ?a_check_word ?l_check_word ?c_check_word ?k_check_word ?a__is_open ?l__is_open ?c__is_open ?k__is_open ?a_back_road ?l_back_road ?c_back_road ?k_back_road ?a__law_random ?l__law_random ?c__law_random ?k__law_random ?a__law_generator ?l__law_generator ?c__law_generator ?k__law_generator ?a__law_cost ?l__law_cost ?c__law_cost ?k__law_cost ?a__is_letter_price ?l__is_letter_price ?c__is_letter_price ?k__is_letter_price ?a_check_joints ?l_check_joints ?c_check_joints ?k_check_joints ?a__walked ?l__walked ?c__walked ?k__walked ?a__law_word ?l__law_word ?c__law_word ?k__law_word ?a__law_letters ?l__law_letters ?c__law_letters ?k__law_letters ?a__law_joints ?l__law_joints ?c__law_joints ?k__law_joints ?a__law_road ?l__law_road ?c__law_road ?k__law_road ?a_is_prices ?l_is_prices ?c_is_prices ?k_is_prices ?a_passed ?l_passed ?c_passed ?k_passed ?a_check_prices ?l_check_prices ?c_check_prices ?k_check_prices ?a_done ?l_done ?c_done ?k_done ?a_moved ?l_moved ?c_moved ?k_moved ?a_price_of ?l_price_of ?c_price_of ?k_price_of ?a__law_right ?l__law_right ?c__law_right ?k__law_right ?a_law ?l_law ?c_law ?k_law ?g_LONGEST ?z_all ?z_bool ?z_dict ?z_int ?z_isinstance ?z_len ?z_list ?z_max ?z_range ?z_reversed ?z_str ?z_sum ?z_tuple ?z_zip
    (case a_is_word => k_is)
    (case l_is_word => k_is)
    (case c_is_word => k_is)
    (case k_is_word => k_is)
    (case a_is_count => k_is)
    (case l_is_count => k_is)
    (case c_is_count => k_is)
    (case k_is_count => k_is)
    (case a__ascends => k_is)
    (case l__ascends => k_is)
    (case c__ascends => k_is)
    (case k__ascends => k_is)
    (case a_letters_priced => k_is)
    (case l_letters_priced => k_is)
    (case c_letters_priced => k_is)
    (case k_letters_priced => k_is)
    (case a_sides_changed => k_is)
    (case l_sides_changed => k_is)
    (case c_sides_changed => k_is)
    (case k_sides_changed => k_is)
    (case a__law_hash => k_is)
    (case l__law_hash => k_is)
    (case c__law_hash => k_is)
    (case k__law_hash => k_is)
    (case a__law_cell => k_is)
    (case l__law_cell => k_is)
    (case c__law_cell => k_is)
    (case k__law_cell => k_is)
    (case a__law_swapped => k_is)
    (case l__law_swapped => k_is)
    (case c__law_swapped => k_is)
    (case k__law_swapped => k_is)
    (case a__law_moved => k_is)
    (case l__law_moved => k_is)
    (case c__law_moved => k_is)
    (case k__law_moved => k_is)
    (case a_is_joints => k_is)
    (case l_is_joints => k_is)
    (case c_is_joints => k_is)
    (case k_is_joints => k_is)
    (case a_is_letter => k_is)
    (case l_is_letter => k_is)
    (case c_is_letter => k_is)
    (case k_is_letter => k_is)
    (case a_check_word => k_is)
    (case l_check_word => k_is)
    (case c_check_word => k_is)
    (case k_check_word => k_is)
    (case a__is_open => k_is)
    (case l__is_open => k_is)
    (case c__is_open => k_is)
    (case k__is_open => k_is)
    (case a_back_road => k_is)
    (case l_back_road => k_is)
    (case c_back_road => k_is)
    (case k_back_road => k_is)
    (case a__law_random => k_is)
    (case l__law_random => k_is)
    (case c__law_random => k_is)
    (case k__law_random => k_is)
    (case a__law_generator => k_is)
    (case l__law_generator => k_is)
    (case c__law_generator => k_is)
    (case k__law_generator => k_is)
    (case a__law_cost => k_is)
    (case l__law_cost => k_is)
    (case c__law_cost => k_is)
    (case k__law_cost => k_is)
    (case a__is_letter_price => k_is)
    (case l__is_letter_price => k_is)
    (case c__is_letter_price => k_is)
    (case k__is_letter_price => k_is)
    (case a_check_joints => k_is)
    (case l_check_joints => k_is)
    (case c_check_joints => k_is)
    (case k_check_joints => k_is)
    (case a__walked => k_is)
    (case l__walked => k_is)
    (case c__walked => k_is)
    (case k__walked => k_is)
    (case a__law_word => k_is)
    (case l__law_word => k_is)
    (case c__law_word => k_is)
    (case k__law_word => k_is)
    (case a__law_letters => k_is)
    (case l__law_letters => k_is)
    (case c__law_letters => k_is)
    (case k__law_letters => k_is)
    (case a__law_joints => k_is)
    (case l__law_joints => k_is)
    (case c__law_joints => k_is)
    (case k__law_joints => k_is)
    (case a__law_road => k_is)
    (case l__law_road => k_is)
    (case c__law_road => k_is)
    (case k__law_road => k_is)
    (case a_is_prices => k_is)
    (case l_is_prices => k_is)
    (case c_is_prices => k_is)
    (case k_is_prices => k_is)
    (case a_passed => k_is)
    (case l_passed => k_is)
    (case c_passed => k_is)
    (case k_passed => k_is)
    (case a_check_prices => k_is)
    (case l_check_prices => k_is)
    (case c_check_prices => k_is)
    (case k_check_prices => k_is)
    (case a_done => k_is)
    (case l_done => k_is)
    (case c_done => k_is)
    (case k_done => k_is)
    (case a_moved => k_is)
    (case l_moved => k_is)
    (case c_moved => k_is)
    (case k_moved => k_is)
    (case a_price_of => k_is)
    (case l_price_of => k_is)
    (case c_price_of => k_is)
    (case k_price_of => k_is)
    (case a__law_right => k_is)
    (case l__law_right => k_is)
    (case c__law_right => k_is)
    (case k__law_right => k_is)
    (case a_law => k_is)
    (case l_law => k_is)
    (case c_law => k_is)
    (case k_law => k_is)
    (case g_LONGEST => k_is)
    (case z_all => k_is)
    (case z_bool => k_is)
    (case z_dict => k_is)
    (case z_int => k_is)
    (case z_isinstance => k_is)
    (case z_len => k_is)
    (case z_list => k_is)
    (case z_max => k_is)
    (case z_range => k_is)
    (case z_reversed => k_is)
    (case z_str => k_is)
    (case z_sum => k_is)
    (case z_tuple => k_is)
    (case z_zip => k_is)

