import PyProof.Rows.All
import Wide.All
import OpenK.AllK
import Wide.FinOn
import HandS.ForMost
import HandS.Wide
import HandS.Style
import HandS.Small
import HandS.TupAny
import HandS.IsInst
import HandS.CallLocal
import HandS.Evl
import HandS.More
import HandS.WrittenGet
import HandS.SetBool
import HandS.Strs
import HandS.Zip
import HandS.Star
import KE.GoesZip
import KE.GoesMore
import PyProof.EnumMake
import PyProof.WalksEnum
import PyProof.ReprRoads
import PyProof.ReprLen
import HandS.SetFor
import KE.DataMinMax
import PyProof.Rows.SortShellAny
import HandS.WideBits
import HandS.TupMul
import HandS.GenYield
import HandS.GenCall
import HandS.GenList
import HandS.Defaults
import KE.KxField
import HandS.FStr
import KE.KSortTupG
import HandS.Sort
import HandS.Deep
import KE.KDictKeyed
import KE.KeyNested
import HandS.Keys
import HandS.Head0
import HandS.Head1
import HandS.Head2
import HandS.HeadHook1
import HandS.HeadHook2
import HandS.HeadHook3
import HandS.Iter
import HandS.Rev
import PySem.Challenge.RW_restitch_k30_terms_are_values
set_option Elab.async false
set_option linter.all false
set_option maxRecDepth 100000
set_option maxHeartbeats 4000000
namespace Co
open PySem PySem.Spec PyProof.Rows L2
def rIntQ : List V → Hp → VK → Prop := fun xs H Q => (∃ i, xs = [.int i] ∧ Q (.int i) H) ∨ ∃ k, xs = [.bl k] ∧ Q (.int (if k then 1 else 0)) H
theorem call_intQ {X : Cx} : CallR X (.type "int") rIntQ := call_int1
def rAbsQ : List V → Hp → VK → Prop := fun xs H Q => ∃ i, xs = [.int i] ∧ Q (.int (if i < 0 then -i else i)) H
theorem call_absQ {X : Cx} : CallR X (.builtin "abs") rAbsQ := call_abs
def rLenQ (K : PySem.W.Frag) : List V → Hp → VK → Prop := fun xs H Q => ∃ p ys, xs = [.ref p] ∧ (SqL K H p ys ∨ SqT K H p ys) ∧ Q (.int (ys.length : Int)) H
theorem call_lenQ {X : Cx} : CallR X (.builtin "len") (rLenQ X.K) := call_len_seq
structure Cd (P : Program) (w : World) (K : PySem.W.Frag) (mg : Str → Option Value) (base : Heap) (k : Nat) (x : Str) (sp : Sp) : Prop where
  ex : ∃ (f : Addr) (fd : FuncData) (ps : List Str), FnOk P w K mg base CX0 k f fd ps sp ∧ mg x = some (.ref f) ∧ PySem.W.keepIn K (.ref f) = true ∧ Binds K fd ps []
def GV (mg : Str → Option Value) (x : Str) (v : V) : Prop := ∃ u, mg x = some u ∧ RelV v u
def tC1 (sp : Sp) (t : TA) : TE := fun σ H Q => t σ H fun vs H1 => sp vs H1 Q E0
section
variable {X : Cx} {k j : Nat} {x : Str} {sp : Sp} {p pos : Pos} {e : Expr} {es : List Expr} {t : TA}
theorem pe_gv {v : V} (hg : Gl X x) (h : GV X.mg x v) (hd : (x == ("__debug__" : Str)) = false := by decide) : PE X (.Name x pos) (tC v) := by
  obtain ⟨u, hm, r⟩ := h
  exact pe_glob hg hm r hd
theorem pe_cd (c : Cd X.prog X.w X.K X.mg X.base k x sp) (hr : Room j X.A) (hk : k ≤ j) (hg : Gl X x) (ha : PA X (e :: es) t)
    (hdb : (x == ("__debug__" : Str)) = false := by decide) (he : starEach (e :: es) X.env = (false, eval e X.env) :: starEach es X.env := by rfl) (hpl : (backTo pos (starEach es X.env)).any (·.1) = false := by rfl) :
    PE X (.Call (.Name x p) (e :: es) [] pos) (tC1 sp t) := by
  obtain ⟨f, fd, ps, F, hm, kp, b⟩ := c.ex
  have z := pe_call (dvs := []) (pos := pos) (p := p) F (hr.mono hk) hg hm kp b .nil pass0 ha hdb he hpl
  refine ⟨fun pins s σ H Q I h => z.run pins s σ H Q I ?_⟩
  show t σ H fun vs H1 => sp (vs ++ []) H1 Q E0
  simp only [List.append_nil]
  exact h
theorem pe_cd0 (c : Cd X.prog X.w X.K X.mg X.base k x sp) (hr : Room j X.A) (hk : k ≤ j) (hg : Gl X x)
    (hdb : (x == ("__debug__" : Str)) = false := by decide) :
    PE X (.Call (.Name x p) [] [] pos) (tC1 sp tNil) := by
  obtain ⟨f, fd, ps, F, hm, kp, b⟩ := c.ex
  exact pe_call0 (dvs := []) (pos := pos) (p := p) F (hr.mono hk) hg hm kp b .nil pass0 hdb
end

/-! ### readings, step by step, from behind -/
def kTup (Q : VK) : List V → Hp → Prop := fun xs H1 => xs.length ≤ sizeLine ∧ ∀ p, H1 p = none → Q (.ref p) (upd H1 p (.tup xs))
def kLst (Q : VK) : List V → Hp → Prop := fun xs H1 => xs.length ≤ sizeLine ∧ ∀ p, H1 p = none → Q (.ref p) (upd H1 p (.lst xs))
def kFor (g : TG) (tb : TS) (D : Ends) (σ : L2.St) : It → Hp → Prop := fun J H1 => ∃ W : Nat → Nat → L2.St → Hp → Prop, (∃ m, W 0 m σ H1) ∧ ∀ i m σ H, W i m σ H →
  (J.stop i H ∧ D.nx σ H) ∨ (J.go i H ∧ ∃ N : L2.St → Hp → Prop, (∀ σ' H', N σ' H' → ∃ m', m' < m ∧ W (i + 1) m' σ' H') ∧ ∀ x H', J.yld i H x H' → g x σ H' fun σ2 H2 => tb { D with nx := N, ct := N, bk := D.nx } σ2 H2)
def kIL (K : PySem.W.Frag) (R : It → Hp → Prop) : V → Hp → Prop := fun x H1 => ∃ a, x = .ref a ∧ (∃ xs, SqL K H1 a xs) ∧ R (Itl K a) H1
def kIT (K : PySem.W.Frag) (R : It → Hp → Prop) : V → Hp → Prop := fun x H1 => ∃ a, x = .ref a ∧ (∃ xs, SqT K H1 a xs) ∧ R (Itt K a) H1
def kR1 (R : It → Hp → Prop) : List V → Hp → Prop := fun vs H1 => ∃ j : Int, vs = [.int j] ∧ -(2 ^ 62) ≤ j ∧ j < 2 ^ 62 ∧ R (Itr 0 j.toNat) H1
def kR2 (R : It → Hp → Prop) : List V → Hp → Prop := fun vs H1 => ∃ i j : Int, vs = [.int i, .int j] ∧ (-(2 ^ 62) ≤ i ∧ i < 2 ^ 62 ∧ -(2 ^ 62) ≤ j ∧ j < 2 ^ 62) ∧ R (Itr i (j - i).toNat) H1
def kLc (g : TG) (tt : TT) (te : TE) (vs : List Nat) (σ : L2.St) (Q : VK) : It → Hp → Prop := fun J H1 => ∀ D, H1 D = none → ∃ W : Nat → Nat → Hp → Prop, (∃ m, W 0 m (upd H1 D (.lst []))) ∧ ∀ i m H, W i m H →
  (J.stop i H ∧ Q (.ref D) H) ∨ (J.go i H ∧ ∃ Nx : Hp → Prop, (∀ H', Nx H' → ∃ m', m' < m ∧ W (i + 1) m' H') ∧ ∀ x H', J.yld i H x H' → g x (wipe σ vs) H' fun σ2 H2 => wipe σ2 vs = wipe σ vs ∧ tt σ2 H2 fun b H3 =>
    if b = true then te σ2 H3 fun y H4 => ∃ acc, H4 D = some (.lst acc) ∧ acc.length < sizeLine ∧ Nx (upd H4 D (.lst (acc ++ [y]))) else Nx H3)
section
variable {σ : L2.St} {H : Hp} {Q : VK} {D : Ends} {ta tb te : TE} {tt tu : TT} {t u : TS} {g : TG} {v x y : V} {i j : Int} {n : Nat} {E : XK}
theorem w_var (h : σ[n]? = some (some v)) (q : Q v H) : tVar n σ H Q := ⟨v, h, q⟩
theorem w_c (q : Q v H) : tC v σ H Q := q
theorem w_op {r : R2} (q : ta σ H fun x H1 => tb σ H1 fun y H2 => r x y H2 Q) : tOp r ta tb σ H Q := q
theorem w_un {r : V → Hp → VK → Prop} (q : ta σ H fun x H1 => r x H1 Q) : tUn r ta σ H Q := q
theorem w_I0 {f : Int → Int → V} (q : Q (f i j) H) : rI0 f (.int i) (.int j) H Q := ⟨i, j, rfl, rfl, q⟩
theorem w_I {C : Int → Int → Prop} {f : Int → Int → V} (c : C i j) (q : Q (f i j) H) : rI C f (.int i) (.int j) H Q := ⟨i, j, rfl, rfl, c, q⟩
theorem w_U {f : Int → V} (q : Q (f i) H) : rU f (.int i) H Q := ⟨i, rfl, q⟩
theorem w_eq (h : scal x y = true) (q : Q (.bl (decide (x = y))) H) : rEq x y H Q := ⟨h, q⟩
theorem w_ne (h : scal x y = true) (q : Q (.bl (!decide (x = y))) H) : rNe x y H Q := ⟨h, q⟩
theorem w_eqI (q : Q (.bl (decide (i = j))) H) : rEq (.int i) (.int j) H Q := ⟨rfl, by
  have e : (decide (V.int i = V.int j)) = decide (i = j) := by
    by_cases h : i = j
    · subst h; simp
    · rw [decide_eq_false h, decide_eq_false (fun z => h (V.int.inj z))]
  rw [e]; exact q⟩
theorem w_neI (q : Q (.bl (!decide (i = j))) H) : rNe (.int i) (.int j) H Q := ⟨rfl, by
  have e : (decide (V.int i = V.int j)) = decide (i = j) := by
    by_cases h : i = j
    · subst h; simp
    · rw [decide_eq_false h, decide_eq_false (fun z => h (V.int.inj z))]
  rw [e]; exact q⟩
theorem w_test {Q : Bool → Hp → Prop} (q : ta σ H fun x H' => ∃ k, x = .bl k ∧ Q k H') : tTest ta σ H Q := q
theorem w_B {Q : Bool → Hp → Prop} (q : ta σ H fun x H' => ∃ k, x = .bl k ∧ Q k H') : tB ta σ H Q := q
theorem w_bl {b : Bool} {Q : Bool → Prop} (q : Q b) : ∃ k, V.bl b = .bl k ∧ Q k := ⟨b, rfl, q⟩
theorem w_if (q : tt σ H fun c H1 => if c = true then ta σ H1 Q else tb σ H1 Q) : tIf tt ta tb σ H Q := q
theorem w_andT {Q : Bool → Hp → Prop} (q : tt σ H fun c H1 => if c = true then tu σ H1 Q else Q false H1) : tAnd tt tu σ H Q := q
theorem w_orT {Q : Bool → Hp → Prop} (q : tt σ H fun c H1 => if c = true then Q true H1 else tu σ H1 Q) : tOr tt tu σ H Q := q
theorem w_notT {Q : Bool → Hp → Prop} (q : tt σ H fun c H1 => Q (!c) H1) : tNot tt σ H Q := q
theorem w_andV (q : ta σ H fun x H1 => ∃ c, x = .bl c ∧ if c = true then tb σ H1 Q else Q (.bl false) H1) : tAndV ta tb σ H Q := q
theorem w_orV (q : ta σ H fun x H1 => ∃ c, x = .bl c ∧ if c = true then Q (.bl true) H1 else tb σ H1 Q) : tOrV ta tb σ H Q := q
theorem w_notV (q : ta σ H fun x H1 => ∃ c, x = .bl c ∧ Q (.bl (!c)) H1) : tNotV ta σ H Q := q
theorem w_chain {r r' : R2} {tc : TE} (q : ta σ H fun x H1 => tb σ H1 fun y H2 => r x y H2 fun z H3 => ∃ k, z = .bl k ∧ if k = true then tc σ H3 fun c H4 => r' y c H4 Q else Q (.bl false) H3) : tChain r r' ta tb tc σ H Q := q
theorem w_seq (q : t { D with nx := u D } σ H) : tSeq t u D σ H := q
theorem w_next (q : D.nx σ H) : tNext D σ H := q
theorem w_ret (q : te σ H D.rt) : tRet te D σ H := q
theorem w_retN (q : D.rt .non H) : tRetN D σ H := q
theorem w_ifS (q : tt σ H fun b H1 => if b = true then t D σ H1 else u D σ H1) : tIfS tt t u D σ H := q
theorem w_asg (q : te σ H fun x H1 => g x σ H1 D.nx) : tAsg te g D σ H := q
theorem w_name {Q : L2.St → Hp → Prop} (q : Q (σ.set n (some v)) H) : gName n v σ H Q := q
theorem w_drop (q : te σ H fun _ H1 => D.nx σ H1) : tDrop te D σ H := q
theorem w_nil {Q : List V → Hp → Prop} (q : Q [] H) : tNil σ H Q := q
theorem w_cons {ta : TE} {tr : TA} {Q : List V → Hp → Prop} (q : ta σ H fun x H1 => tr σ H1 fun xs H2 => Q (x :: xs) H2) : tCons ta tr σ H Q := q
theorem w_call {sp : Sp} {t : TA} (q : t σ H fun vs H1 => sp vs H1 Q E0) : tC1 sp t σ H Q := q
theorem w_cb {r : List V → Hp → VK → Prop} {t : TA} (q : t σ H fun vs H1 => r vs H1 Q) : tCB r t σ H Q := q
theorem w_dec {c : Prop} [Decidable c] {A B : Prop} (h1 : c → A) (h2 : ¬ c → B) : if decide c = true then A else B := by
  by_cases h : c
  · rw [if_pos (decide_eq_true h)]; exact h1 h
  · rw [if_neg (by rw [decide_eq_false h]; exact Bool.false_ne_true)]; exact h2 h
theorem w_ndec {c : Prop} [Decidable c] {A B : Prop} (h1 : ¬ c → A) (h2 : c → B) : if (!decide c) = true then A else B := by
  by_cases h : c
  · rw [if_neg (by rw [decide_eq_true h]; decide)]; exact h2 h
  · rw [if_pos (by rw [decide_eq_false h]; decide)]; exact h1 h
theorem w_itT {A B : Prop} (h : A) : if true = true then A else B := iteT h
theorem w_itF {A B : Prop} (h : B) : if false = true then A else B := iteF h
theorem w_bool {b : Bool} {A B : Prop} (h1 : b = true → A) (h2 : b = false → B) : if b = true then A else B := by
  cases b
  · exact iteF (h2 rfl)
  · exact iteT (h1 rfl)
theorem w_tup {ta : TA} (q : ta σ H (kTup Q)) : tTup ta σ H Q := q
theorem w_lst {ta : TA} (q : ta σ H (kLst Q)) : tLst ta σ H Q := q
theorem w_kTup {xs : List V} (h : xs.length ≤ sizeLine) (q : ∀ p H', H p = none → Same H H' → H' p = some (.tup xs) → Q (.ref p) H') : kTup Q xs H := ⟨h, fun p np => q p _ np (fun b x e => by rw [upd_ne (ne_of_none e np)]; exact e) upd_same⟩
theorem w_kLst {xs : List V} (h : xs.length ≤ sizeLine) (q : ∀ p H', H p = none → Same H H' → H' p = some (.lst xs) → Q (.ref p) H') : kLst Q xs H := ⟨h, fun p np => q p _ np (fun b x e => by rw [upd_ne (ne_of_none e np)]; exact e) upd_same⟩
end
section
variable {K : PySem.W.Frag} {σ : L2.St} {H : Hp} {Q : VK} {p : Addr} {xs : List V} {i : Int} {v x : V} {n : Nat}
theorem w_ixL (h : H p = some (.lst xs)) (ha : atI xs i = some v) (q : Q v H) : rIxL K (.ref p) (.int i) H Q := ⟨p, xs, i, v, rfl, rfl, .inl (.inl h), ha, q⟩
theorem w_ixLs (h : SqL K H p xs) (ha : atI xs i = some v) (q : Q v H) : rIxL K (.ref p) (.int i) H Q := ⟨p, xs, i, v, rfl, rfl, h, ha, q⟩
theorem w_ixT (h : H p = some (.tup xs)) (ha : atI xs i = some v) (q : Q v H) : rIxT K (.ref p) (.int i) H Q := ⟨p, xs, i, v, rfl, rfl, .inl (.inl h), ha, q⟩
theorem w_ixTs (h : SqT K H p xs) (ha : atI xs i = some v) (q : Q v H) : rIxT K (.ref p) (.int i) H Q := ⟨p, xs, i, v, rfl, rfl, h, ha, q⟩
theorem w_sub {to ti : TE} {t : TSet} {Q : L2.St → Hp → Prop} (q : to σ H fun o H1 => ti σ H1 fun i H2 => t o i v H2 fun H3 => Q σ H3) : gSub to ti t v σ H Q := q
theorem w_lenL (h : H p = some (.lst xs)) (q : Q (.int (xs.length : Int)) H) : rLenQ K [.ref p] H Q := ⟨p, xs, rfl, .inl (.inl (.inl h)), q⟩
theorem w_lenLs (h : SqL K H p xs) (q : Q (.int (xs.length : Int)) H) : rLenQ K [.ref p] H Q := ⟨p, xs, rfl, .inl h, q⟩
theorem w_lenT (h : H p = some (.tup xs)) (q : Q (.int (xs.length : Int)) H) : rLenQ K [.ref p] H Q := ⟨p, xs, rfl, .inr (.inl (.inl h)), q⟩
theorem w_int1 (q : Q (.int i) H) : rIntQ [.int i] H Q := .inl ⟨i, rfl, q⟩
theorem w_abs (q : Q (.int (if i < 0 then -i else i)) H) : rAbsQ [.int i] H Q := ⟨i, rfl, q⟩
theorem ixN_lit {n : Nat} {j : Nat} (h : j < n) : ixN n (j : Int) = some j := by
  unfold ixN
  rw [if_pos (Int.natCast_nonneg _), if_pos (by omega)]
  simp
theorem atI_of {α : Type} {xs : List α} {i : Int} {v : α} (h0 : 0 ≤ i) (h : xs[i.toNat]? = some v) : atI xs i = some v := by
  have e : ((i.toNat : Nat) : Int) = i := Int.toNat_of_nonneg h0
  have z := atI_nat (j := i.toNat) h
  rw [e] at z
  exact z
end
section
variable {K : PySem.W.Frag} {σ : L2.St} {H : Hp} {D : Ends} {g : TG} {tb : TS} {wi : TI} {tl : TE} {R : It → Hp → Prop}
theorem w_for (q : wi σ H (kFor g tb D σ)) : tFor wi g tb D σ H := q
theorem w_iL (q : tl σ H (kIL K R)) : iList K tl σ H R := q
theorem w_iT (q : tl σ H (kIT K R)) : iTup K tl σ H R := q
theorem w_rng1 {ta : TA} (q : ta σ H (kR1 R)) : iRng1 ta σ H R := q
theorem w_rng2 {ta : TA} (q : ta σ H (kR2 R)) : iRng2 ta σ H R := q
theorem w_kR1 {j : Int} (h0 : -(2 ^ 62) ≤ j) (h1 : j < 2 ^ 62) (q : R (Itr 0 j.toNat) H) : kR1 R [.int j] H := ⟨j, rfl, h0, h1, q⟩
theorem w_forL {a : Addr} (xs : List V) (Pv : Nat → L2.St → Hp → Prop) (hS : SqL K H a xs) (h0 : Pv 0 σ H) (hl : ∀ i σ H, i ≤ xs.length → Pv i σ H → SqL K H a xs)
    (hs : ∀ i x σ H, xs[i]? = some x → Pv i σ H → g x σ H fun σ2 H2 => tb { D with nx := Pv (i + 1), ct := Pv (i + 1), bk := D.nx } σ2 H2) (hd : ∀ σ H, Pv xs.length σ H → D.nx σ H) : kIL K (kFor g tb D σ) (.ref a) H :=
  ⟨a, rfl, ⟨_, hS⟩, for_list (K := K) (a := a) (xs := xs) Pv h0 hl hs hd⟩
theorem w_forT {a : Addr} (xs : List V) (Pv : Nat → L2.St → Hp → Prop) (hS : SqT K H a xs) (h0 : Pv 0 σ H) (hl : ∀ i σ H, i ≤ xs.length → Pv i σ H → SqT K H a xs)
    (hs : ∀ i x σ H, xs[i]? = some x → Pv i σ H → g x σ H fun σ2 H2 => tb { D with nx := Pv (i + 1), ct := Pv (i + 1), bk := D.nx } σ2 H2) (hd : ∀ σ H, Pv xs.length σ H → D.nx σ H) : kIT K (kFor g tb D σ) (.ref a) H :=
  ⟨a, rfl, ⟨_, hS⟩, for_tup (K := K) (a := a) (xs := xs) Pv h0 hl hs hd⟩
theorem w_forR {j : Int} (n : Nat) (Pv : Nat → L2.St → Hp → Prop) (hn : j.toNat = n) (hj : n < 4611686018427387904 ∧ -4611686018427387904 ≤ j) (h0 : Pv 0 σ H)
    (hs : ∀ i σ H, i < n → Pv i σ H → g (.int (i : Int)) σ H fun σ2 H2 => tb { D with nx := Pv (i + 1), ct := Pv (i + 1), bk := D.nx } σ2 H2) (hd : ∀ σ H, Pv n σ H → D.nx σ H) : kR1 (kFor g tb D σ) [.int j] H := by
  refine ⟨j, rfl, by show -4611686018427387904 ≤ j; omega, by show j < 4611686018427387904; omega, ?_⟩
  subst hn
  refine for_range (lo := 0) (n := j.toNat) Pv h0 (fun i σ H hi p => ?_) hd
  rw [Int.zero_add]
  exact hs i σ H hi p
theorem w_yes {Q : Bool → Hp → Prop} (q : Q true H) : tYes σ H Q := q
theorem w_lc {tt : TT} {te : TE} {vs : List Nat} {Q : VK} (q : wi σ H (kLc g tt te vs σ Q)) : tLc wi g tt te vs σ H Q := q
theorem w_lcL {tt : TT} {te : TE} {vs : List Nat} {Q : VK} {a : Addr} (xs : List V) (Pv : Addr → Nat → Hp → Prop) (hS : SqL K H a xs) (h0 : ∀ D, H D = none → Pv D 0 (upd H D (.lst []))) (hl : ∀ D i H, i ≤ xs.length → Pv D i H → SqL K H a xs)
    (hs : ∀ D i x H, xs[i]? = some x → Pv D i H → g x (wipe σ vs) H fun σ2 H2 => wipe σ2 vs = wipe σ vs ∧ tt σ2 H2 fun b H3 =>
      if b = true then te σ2 H3 fun y H4 => ∃ acc, H4 D = some (.lst acc) ∧ acc.length < sizeLine ∧ Pv D (i + 1) (upd H4 D (.lst (acc ++ [y]))) else Pv D (i + 1) H3) (hd : ∀ D H', H D = none → Pv D xs.length H' → Q (.ref D) H') : kIL K (kLc g tt te vs σ Q) (.ref a) H :=
  ⟨a, rfl, ⟨_, hS⟩, fun D nD => lc_list (K := K) (a := a) (xs := xs) (Pv D) (h0 D nD) (hl D) (hs D) (fun H' p => hd D H' nD p)⟩
theorem w_lcT {tt : TT} {te : TE} {vs : List Nat} {Q : VK} {a : Addr} (xs : List V) (Pv : Addr → Nat → Hp → Prop) (hS : SqT K H a xs) (h0 : ∀ D, H D = none → Pv D 0 (upd H D (.lst []))) (hl : ∀ D i H, i ≤ xs.length → Pv D i H → SqT K H a xs)
    (hs : ∀ D i x H, xs[i]? = some x → Pv D i H → g x (wipe σ vs) H fun σ2 H2 => wipe σ2 vs = wipe σ vs ∧ tt σ2 H2 fun b H3 =>
      if b = true then te σ2 H3 fun y H4 => ∃ acc, H4 D = some (.lst acc) ∧ acc.length < sizeLine ∧ Pv D (i + 1) (upd H4 D (.lst (acc ++ [y]))) else Pv D (i + 1) H3) (hd : ∀ D H', H D = none → Pv D xs.length H' → Q (.ref D) H') : kIT K (kLc g tt te vs σ Q) (.ref a) H :=
  ⟨a, rfl, ⟨_, hS⟩, fun D nD => lc_tup (K := K) (a := a) (xs := xs) (Pv D) (h0 D nD) (hl D) (hs D) (fun H' p => hd D H' nD p)⟩
theorem w_lcR {tt : TT} {te : TE} {vs : List Nat} {Q : VK} {j : Int} (n : Nat) (Pv : Addr → Nat → Hp → Prop) (hn : j.toNat = n) (hj : n < 4611686018427387904 ∧ -4611686018427387904 ≤ j) (h0 : ∀ D, H D = none → Pv D 0 (upd H D (.lst [])))
    (hs : ∀ D i H, i < n → Pv D i H → g (.int (i : Int)) (wipe σ vs) H fun σ2 H2 => wipe σ2 vs = wipe σ vs ∧ tt σ2 H2 fun b H3 =>
      if b = true then te σ2 H3 fun y H4 => ∃ acc, H4 D = some (.lst acc) ∧ acc.length < sizeLine ∧ Pv D (i + 1) (upd H4 D (.lst (acc ++ [y]))) else Pv D (i + 1) H3) (hd : ∀ D H', H D = none → Pv D n H' → Q (.ref D) H') : kR1 (kLc g tt te vs σ Q) [.int j] H := by
  refine ⟨j, rfl, by show -4611686018427387904 ≤ j; omega, by show j < 4611686018427387904; omega, ?_⟩
  subst hn
  refine fun D nD => lc_range (lo := 0) (n := j.toNat) (Pv D) (h0 D nD) (fun i H hi p => ?_) (fun H' p => hd D H' nD p)
  rw [Int.zero_add]
  exact hs D i H hi p
end
theorem take_more {α : Type} : ∀ {l : List α} {i : Nat} {x : α}, l[i]? = some x → l.take (i + 1) = l.take i ++ [x]
  | [], i, x, h => by simp at h
  | a :: l, 0, x, h => by
    have e : a = x := Option.some.inj h
    subst e
    rfl
  | a :: l, i + 1, x, h => by
    have ih := take_more (l := l) (i := i) (x := x) h
    show a :: l.take (i + 1) = a :: l.take i ++ [x]
    rw [ih]
    rfl
theorem map_get {ns : List Int} {i : Nat} {x : V} (h : (ns.map V.int)[i]? = some x) : ∃ n, ns[i]? = some n ∧ x = .int n := by
  rw [List.getElem?_map] at h
  cases e : ns[i]? with
  | none => rw [e] at h; cases h
  | some z => rw [e] at h; exact ⟨z, rfl, (Option.some.inj h).symm⟩
theorem w_p32 {H : Hp} {Q : VK} (q : Q (.int 4294967296) H) : rI CPow (fun i j => .int (i ^ j.toNat)) (.int 2) (.int 32) H Q := ⟨2, 32, rfl, rfl, ⟨by decide, by decide, by decide⟩, q⟩
theorem w_p31 {H : Hp} {Q : VK} (q : Q (.int 2147483648) H) : rI CPow (fun i j => .int (i ^ j.toNat)) (.int 2) (.int 31) H Q := ⟨2, 31, rfl, rfl, ⟨by decide, by decide, by decide⟩, q⟩
theorem w_p26 {H : Hp} {Q : VK} (q : Q (.int 67108864) H) : rI CPow (fun i j => .int (i ^ j.toNat)) (.int 2) (.int 26) H Q := ⟨2, 26, rfl, rfl, ⟨by decide, by decide, by decide⟩, q⟩
theorem w_p22 {H : Hp} {Q : VK} (q : Q (.int 4194304) H) : rI CPow (fun i j => .int (i ^ j.toNat)) (.int 2) (.int 22) H Q := ⟨2, 22, rfl, rfl, ⟨by decide, by decide, by decide⟩, q⟩
theorem w_p20 {H : Hp} {Q : VK} (q : Q (.int 1048576) H) : rI CPow (fun i j => .int (i ^ j.toNat)) (.int 2) (.int 20) H Q := ⟨2, 20, rfl, rfl, ⟨by decide, by decide, by decide⟩, q⟩
theorem w_p18 {H : Hp} {Q : VK} (q : Q (.int 262144) H) : rI CPow (fun i j => .int (i ^ j.toNat)) (.int 2) (.int 18) H Q := ⟨2, 18, rfl, rfl, ⟨by decide, by decide, by decide⟩, q⟩
theorem w_p17 {H : Hp} {Q : VK} (q : Q (.int 131072) H) : rI CPow (fun i j => .int (i ^ j.toNat)) (.int 2) (.int 17) H Q := ⟨2, 17, rfl, rfl, ⟨by decide, by decide, by decide⟩, q⟩
theorem w_p16 {H : Hp} {Q : VK} (q : Q (.int 65536) H) : rI CPow (fun i j => .int (i ^ j.toNat)) (.int 2) (.int 16) H Q := ⟨2, 16, rfl, rfl, ⟨by decide, by decide, by decide⟩, q⟩
theorem w_p14 {H : Hp} {Q : VK} (q : Q (.int 16384) H) : rI CPow (fun i j => .int (i ^ j.toNat)) (.int 2) (.int 14) H Q := ⟨2, 14, rfl, rfl, ⟨by decide, by decide, by decide⟩, q⟩
theorem w_p13 {H : Hp} {Q : VK} (q : Q (.int 8192) H) : rI CPow (fun i j => .int (i ^ j.toNat)) (.int 2) (.int 13) H Q := ⟨2, 13, rfl, rfl, ⟨by decide, by decide, by decide⟩, q⟩
/-- all but d stays -/
def But (d : Addr) (H H' : Hp) : Prop := ∀ b o, b ≠ d → H b = some o → H' b = some o
theorem But.refl (d : Addr) (H : Hp) : But d H H := fun _ _ _ h => h
theorem But.trans {d : Addr} {H H1 H2 : Hp} (a : But d H H1) (b : But d H1 H2) : But d H H2 := fun c o n h => b c o n (a c o n h)
theorem But.of {d : Addr} {H H' : Hp} (s : Same H H') : But d H H' := fun b o _ h => s b o h
theorem But.set {d : Addr} {H : Hp} {o : HO} : But d H (upd H d o) := fun b u n h => by rw [upd_ne n]; exact h
theorem But.tup {d : Addr} {H H' : Hp} {xs ys : List V} {a : Addr} (b : But d H H') (hd : H d = some (.lst ys)) (h : H a = some (.tup xs)) : H' a = some (.tup xs) := b a _ (ne_of h hd (by intro z; cases z)) h
theorem Same.new {H : Hp} {p : Addr} {o : HO} (h : H p = none) : Same H (upd H p o) := fun b x e => by rw [upd_ne (ne_of_none e h)]; exact e
theorem But.new {d : Addr} {H : Hp} {p : Addr} {o : HO} (h : H p = none) : But d H (upd H p o) := .of (Same.new h)
theorem w_setL {p : Addr} {xs : List V} {i : Int} {v : V} {H : Hp} {j : Nat} {Q : Hp → Prop} (h : H p = some (.lst xs)) (hj : ixN xs.length i = some j) (q : ∀ H', H' p = some (.lst (xs.set j v)) → But p H H' → Q H') : rSetL (.ref p) (.int i) v H Q := ⟨p, xs, i, j, rfl, rfl, h, hj, q _ upd_same But.set⟩
section
variable {X : Cx} {k i : Nat} {x : Str} {p pos : Pos} {e : Expr} {es : List Expr} {t : TA}
/-- a local that holds a def, called -/
def tCallZ (P : Program) (w : World) (K : PySem.W.Frag) (mg : Str → Option Value) (base : Heap) (k i : Nat) (t : TA) : TE := fun σ H Q => ∃ f sp, σ[i]? = some (some (.ref f)) ∧ Held P w K mg base k f sp ∧ t σ H fun vs H1 => sp vs H1 Q E0
theorem pe_callZ (hr : Room k X.A) (hN : X.N[i]? = some x) (hv : Vis X.env.scope x) (ha : PA X (e :: es) t)
    (hdb : (x == ("__debug__" : Str)) = false := by decide) (hcd : (x == ("__classdict__" : Str)) = false := by decide)
    (he : starEach (e :: es) X.env = (false, eval e X.env) :: starEach es X.env := by rfl) (hpl : (backTo pos (starEach es X.env)).any (·.1) = false := by rfl) : PE X (.Call (.Name x p) (e :: es) [] pos) (tCallZ X.prog X.w X.K X.mg X.base k i t) := by
  refine ⟨fun pins s σ H Q I h => ?_⟩
  obtain ⟨f, sp, hs, hd, ht⟩ := h
  obtain ⟨fd, ps, F, hk, hb⟩ := hd.ex
  refine (pe_callL (i := i) (f := f) (sp := sp) (dvs := []) (E := E0) F hr hN hv hk hb .nil pass0 ha hdb hcd he hpl).run pins s σ H Q I ⟨hs, ?_⟩
  show t σ H (fun vs H1 => sp (vs ++ []) H1 Q E0)
  simp only [List.append_nil]
  exact ht
end
theorem w_callZ {P : Program} {w : World} {K : PySem.W.Frag} {mg : Str → Option Value} {base : Heap} {k i : Nat} {t : TA} {σ : L2.St} {H : Hp} {Q : VK} {f : Addr} {sp : Sp} (hs : σ[i]? = some (some (.ref f))) (h : Held P w K mg base k f sp) (q : t σ H fun vs H1 => sp vs H1 Q E0) : tCallZ P w K mg base k i t σ H Q := ⟨f, sp, hs, h, q⟩
theorem w_ixD {K : PySem.W.Frag} {w : World} {p : Addr} {z : Str} {v : V} {H : Hp} {Q : VK} (h : KDct K w p z v) (q : Q v H) : rIxD K w (.ref p) (.str z) H Q := ⟨p, z, v, rfl, rfl, h, q⟩
theorem w_eqS {a b : Str} {H : Hp} {Q : VK} (q : Q (.bl (decide (a = b))) H) : rEq (.str a) (.str b) H Q := ⟨rfl, by
  have e : (decide (V.str a = V.str b)) = decide (a = b) := by
    by_cases h : a = b
    · subst h; simp
    · rw [decide_eq_false h, decide_eq_false (fun z => h (V.str.inj z))]
  rw [e]; exact q⟩
theorem w_decT {c : Prop} [Decidable c] {A B : Prop} (h : c) (q : A) : if decide c = true then A else B := by
  rw [if_pos (decide_eq_true h)]; exact q
theorem w_decF {c : Prop} [Decidable c] {A B : Prop} (h : ¬ c) (q : B) : if decide c = true then A else B := by
  rw [if_neg (by rw [decide_eq_false h]; exact Bool.false_ne_true)]; exact q
theorem w_inL {K : PySem.W.Frag} {x : V} {p : Addr} {xs : List V} {H : Hp} {Q : VK} {b : Bool} (h : H p = some (.lst xs)) (hx : flatV x = true) (ha : xs.all flatV = true) (hb : inV x xs = b) (q : Q (.bl b) H) : rIn K false x (.ref p) H Q := ⟨p, xs, rfl, .inl (.inl (.inl h)), hx, ha, by rw [hb]; exact q⟩
def rAddSQ : R2 := fun x y H Q => ∃ i j, x = .str i ∧ y = .str j ∧ i.length + j.length ≤ sizeLine ∧ Q (.str (i ++ j)) H
theorem op_addSQ {X : Cx} : OpR X (binaryOp .Add) rAddSQ := op_add_str
theorem w_addS {a b : Str} {H : Hp} {Q : VK} (h : a.length + b.length ≤ sizeLine) (q : Q (.str (a ++ b)) H) : rAddSQ (.str a) (.str b) H Q := ⟨a, b, rfl, rfl, h, q⟩
section
variable {X : Cx} {c a b : Expr} {tc ta tb : TT} {pos : Pos}
/-- a if c else b, as a test -/
def tIfB (tc ta tb : TT) : TT := fun σ H Q => tc σ H fun k H1 => if k = true then ta σ H1 Q else tb σ H1 Q
theorem pt_ifExp (hc : PT X c tc) (ha : PT X a ta) (hb : PT X b tb) : PT X (.IfExp c a b pos) (tIfB tc ta tb) := by
  refine ⟨fun pins s σ H Q I h => ?_⟩
  refine isTrue_IfExp (thn (hc.run pins s σ H _ I h) fun k s1 ⟨H1, I1, q⟩ => ?_)
  cases k with
  | true => exact ha.run pins s1 σ H1 Q I1 (by simpa using q)
  | false => exact hb.run pins s1 σ H1 Q I1 (by simpa using q)
theorem w_ifB {σ : L2.St} {H : Hp} {Q : Bool → Hp → Prop} (q : tc σ H fun k H1 => if k = true then ta σ H1 Q else tb σ H1 Q) : tIfB tc ta tb σ H Q := q
end
theorem w_gTup {K : PySem.W.Frag} {n : Nat} {t : TGs} {a : Addr} {xs : List V} {σ : L2.St} {H : Hp} {Q : L2.St → Hp → Prop} (h : H a = some (.tup xs)) (hn : xs.length = n) (q : t xs σ H Q) : gTup K n t (.ref a) σ H Q := ⟨a, xs, rfl, .inl (.inl h), hn, q⟩
theorem w_gNil {σ : L2.St} {H : Hp} {Q : L2.St → Hp → Prop} (q : Q σ H) : gNil [] σ H Q := ⟨rfl, q⟩
theorem w_gCons {t : TG} {u : TGs} {v : V} {r : List V} {σ : L2.St} {H : Hp} {Q : L2.St → Hp → Prop} (q : t v σ H fun σ' H' => u r σ' H' Q) : gCons t u (v :: r) σ H Q := ⟨v, r, rfl, q⟩
theorem w_isB {a b : Bool} {H : Hp} {Q : VK} (q : Q (.bl (decide (a = b))) H) : rIsB (.bl a) (.bl b) H Q := ⟨a, b, rfl, rfl, q⟩
theorem w_notB {a b : Bool} {H : Hp} {Q : VK} (q : Q (.bl (!decide (a = b))) H) : rNotB (.bl a) (.bl b) H Q := ⟨a, b, rfl, rfl, q⟩
theorem w_isiInt {K : PySem.W.Frag} {i : Int} {H : Hp} {Q : VK} (q : Q (.bl true) H) : rIsi K [.int i, .ty "int"] H Q := ⟨.int i, .ty "int", .type "int", .type "int", true, rfl, .ty _, .base (.int _), kit_ty (by decide +kernel), q⟩
theorem w_isiIntB {K : PySem.W.Frag} {i : Int} {H : Hp} {Q : VK} (q : Q (.bl false) H) : rIsi K [.int i, .ty "bool"] H Q := ⟨.int i, .ty "bool", .type "int", .type "bool", false, rfl, .ty _, .base (.int _), kit_ty (by decide +kernel), q⟩
theorem w_ndecF {c : Prop} [Decidable c] {A B : Prop} (h : c) (q : B) : if (!decide c) = true then A else B := by
  rw [if_neg (by rw [decide_eq_true h]; decide)]; exact q
theorem w_ndecT {c : Prop} [Decidable c] {A B : Prop} (h : ¬ c) (q : A) : if (!decide c) = true then A else B := by
  rw [if_pos (by rw [decide_eq_false h]; rfl)]; exact q
theorem w_nT {A B : Prop} (q : B) : if (!true) = true then A else B := by rw [if_neg (by decide)]; exact q
theorem w_nF {A B : Prop} (q : A) : if (!false) = true then A else B := by rw [if_pos (by decide)]; exact q
theorem map_get' {α : Type} {f : α → V} {ns : List α} {i : Nat} {x : V} (h : (ns.map f)[i]? = some x) : ∃ n, n ∈ ns ∧ ns[i]? = some n ∧ x = f n := by
  rw [List.getElem?_map] at h
  cases e : ns[i]? with
  | none => rw [e] at h; cases h
  | some z => rw [e] at h; exact ⟨z, List.mem_of_getElem? e, rfl, (Option.some.inj h).symm⟩
/-- pure functions of ints -/
def spI1 (C : Int → Prop) (f : Int → V) : Sp := fun vs H Q _ => ∃ x, vs = [.int x] ∧ C x ∧ Q (f x) H
def spI2 (C : Int → Int → Prop) (f : Int → Int → V) : Sp := fun vs H Q _ => ∃ x y, vs = [.int x, .int y] ∧ C x y ∧ Q (f x y) H
theorem w_spI1 {C : Int → Prop} {f : Int → V} {x : Int} {H : Hp} {Q : VK} {E : XK} (c : C x) (q : Q (f x) H) : spI1 C f [.int x] H Q E := ⟨x, rfl, c, q⟩
theorem w_spI2 {C : Int → Int → Prop} {f : Int → Int → V} {x y : Int} {H : Hp} {Q : VK} {E : XK} (c : C x y) (q : Q (f x y) H) : spI2 C f [.int x, .int y] H Q E := ⟨x, y, rfl, c, q⟩
theorem len_spI1 {C : Int → Prop} {f : Int → V} {s : Str} (vs : List V) (H : Hp) (Q : VK) (E : XK) (h : spI1 C f vs H Q E) : vs.length = [s].length := by
  obtain ⟨x, rfl, _⟩ := h; rfl
theorem len_spI2 {C : Int → Int → Prop} {f : Int → Int → V} {s r : Str} (vs : List V) (H : Hp) (Q : VK) (E : XK) (h : spI2 C f vs H Q E) : vs.length = [s, r].length := by
  obtain ⟨x, y, rfl, _⟩ := h; rfl
/-- a Cd from a def that stands -/
theorem mkCd {P : Program} {w : World} {K : PySem.W.Frag} {mg : Str → Option Value} {base : Heap} {x qual : Str} {st : Stmt} {f : Addr} {fd : FuncData} {k : Nat} {ps : List Str} {sp : Sp} (F : Fun K x qual st f fd) (b : Binds K fd ps []) (m : mg x = some (.ref f)) (ok : FnOk P w K mg base CX0 k f fd ps sp) : Cd P w K mg base k x sp :=
  ⟨f, fd, ps, ok, m, F.kp, b⟩
/-- what stands: the def, how its arguments bind, its name -/
structure St1 (K : PySem.W.Frag) (mg : Str → Option Value) (x : Str) (st : Stmt) (ps : List Str) : Prop where
  ex : ∃ f fd, Fun K x x st f fd ∧ Binds K fd ps [] ∧ mg x = some (.ref f)
theorem St1.cd {P : Program} {w : World} {K : PySem.W.Frag} {mg : Str → Option Value} {base : Heap} {x : Str} {st : Stmt} {k : Nat} {N ps : List Str} {sp : Sp} (Z : St1 K mg x st ps) (S : FnScope N ps (defScope st)) (len : ∀ vs H Q E, sp vs H Q E → vs.length = ps.length)
    (hbody : ∀ (f : Addr) (cdv : Value) (A : Around) (outer : List Env) (s : Shared) (H : Hp) (vs : List V) (Q : VK) (E : XK), Room k (A.deeper (envOfC x (defScope st) s.heap.objs.size f cdv)) → sp vs H Q E →
      ∃ t, PSs (cxOf CX0 P w K mg base N x (defScope st) f cdv A outer s H E).nox (defBody st) t ∧ t { nx := fun _ H' => Q .non H', rt := Q } (start N vs) H) : Cd P w K mg base (k + 1) x sp := by
  obtain ⟨f, fd, F, b, m⟩ := Z.ex
  exact mkCd F b m (F.ok S len (hbody f))
theorem mkSt1 {K : PySem.W.Frag} {mg : Str → Option Value} {x : Str} {st : Stmt} {ps : List Str} {h : Heap} {f : Addr} {oc : Value} {od an : Option Addr} {osl : Array (Option Value)} {kV doc pm cdv ct : Value} (X : K.In h) (G : h.Ns mainGlobals mg)
    (a : PySem.W.nsIn K mainGlobals x = some (some (.ref f))) (l : K.lookup f = some ⟨oc, od, .func (PySem.W.fnOf x x (defArgs st) (defBody st) (defScope st) .none kV doc pm an cdv ct), osl⟩) (c : PySem.W.codeIn K cdv x = true) (k : PySem.W.keepIn K (.ref f) = true)
    (hb : ∀ (kV doc pm : Value) (an : Option Addr) (cdv ct : Value) (us : List Value), us.length = ps.length → bindArgs (PySem.W.fnOf x x (defArgs st) (defBody st) (defScope st) .none kV doc pm an cdv ct) ⟨us, []⟩ = pure (ps.zip us)) : St1 K mg x st ps :=
  ⟨f, _, fun_mk (st := st) l c k, (fun_mk (st := st) l c k).binds hb, PySem.W.mg_of X G a⟩
/-- a def among others that a local may hold -/
theorem Cd.held {P : Program} {w : World} {K : PySem.W.Frag} {mg : Str → Option Value} {base : Heap} {k : Nat} {x : Str} {sp : Sp} {f : Addr} (c : Cd P w K mg base k x sp) (m : mg x = some (.ref f)) : Held P w K mg base k f sp := by
  obtain ⟨f', fd, ps, F, m', kp, b⟩ := c.ex
  cases m'.symm.trans m
  exact ⟨⟨fd, ps, F, kp, b⟩⟩
end Co

set_option Elab.async false
set_option linter.all false
set_option maxRecDepth 100000
set_option maxHeartbeats 4000000
namespace Co
open PySem PySem.Spec PyProof.Rows L2 PpSet
/-! ### a comprehension, clause by clause: one rule for each clause's loop, whatever its turn does -/
/-- a clause's turn, what is done with an item told apart -/
def turnOf (tg src : Expr) (ifs : List Expr) (it : Value) (env : Env) (body : Sem Unit) (c : Code) : Sem PySem.Fin := do
  standAt src.pos
  match ← pyNext it with
  | none => pure (.done .next)
  | some v =>
    letOwnedTupleGo tg it v
    assign tg env v
    let mut ok := true
    for c in ifs do
      if ok then ok ← isTrue c env (eval c env)
    if ok then body
    again c
/-- the body of the innermost clause of a set's comprehension -/
def addTo (elt : Expr) (acc : Value) (env : Env) : Sem Unit := do
  let v ← eval elt env
  standAt elt.pos
  let _ ← call (.builtin "set.add") [acc, v]
theorem turn_s1 (elt t i : Expr) (ifs : List Expr) (sc : Scope) (pos : Pos) (it acc : Value) (env : Env) :
    compTurn (.SetComp elt [⟨t, i, ifs, 0⟩] sc pos) 0 it acc env = turnOf t i ifs it env (addTo elt acc env) (.compLoop (.SetComp elt [⟨t, i, ifs, 0⟩] sc pos) 0 it acc env) := by rfl
theorem turn_s2b (elt t i t1 i1 : Expr) (ifs ifs1 : List Expr) (sc : Scope) (pos : Pos) (it acc : Value) (env : Env) :
    compTurn (.SetComp elt [⟨t, i, ifs, 0⟩, ⟨t1, i1, ifs1, 0⟩] sc pos) 1 it acc env = turnOf t1 i1 ifs1 it env (addTo elt acc env) (.compLoop (.SetComp elt [⟨t, i, ifs, 0⟩, ⟨t1, i1, ifs1, 0⟩] sc pos) 1 it acc env) := by rfl
/-- what an outer clause does with an item: the next clause begins -/
def beginIn (C : Expr) (i1 : Expr) (k : Nat) (acc : Value) (env : Env) : Sem Unit := do
  let x ← eval i1 env
  standAt i1.pos
  let x ← foldedSetIterable i1 env x
  let _ ← runOwn (.compStart C k (← holding [x] (pyIter x)) acc env) env
theorem turn_s2a (elt t i t1 i1 : Expr) (ifs ifs1 : List Expr) (sc : Scope) (pos : Pos) (it acc : Value) (env : Env) :
    compTurn (.SetComp elt [⟨t, i, ifs, 0⟩, ⟨t1, i1, ifs1, 0⟩] sc pos) 0 it acc env = turnOf t i ifs it env (beginIn (.SetComp elt [⟨t, i, ifs, 0⟩, ⟨t1, i1, ifs1, 0⟩] sc pos) i1 1 acc env) (.compLoop (.SetComp elt [⟨t, i, ifs, 0⟩, ⟨t1, i1, ifs1, 0⟩] sc pos) 0 it acc env) := by
  unfold turnOf beginIn
  simp only [bind_assoc, pure_bind]
  rfl

/-- no exception -/
abbrev Never : Value → Shared → Prop := fun _ _ => False
section
variable {prog : Program} {w : World} {A : Around} {s : Shared} {elt : Expr} {gens : List Comprehension} {sc : Scope} {pos : Pos} {k : Nat} {it acc : Value} {env : Env} {tg src : Expr} {ifs : List Expr} {body : Sem Unit}
/-- the tests of a clause -/
def testsOf (ifs : List Expr) (env : Env) : Sem Bool := forIn ifs true fun c r => if r = true then do let ok ← isTrue c env (eval c env); pure (ForInStep.yield ok) else pure (ForInStep.yield r)
/-- one turn: from I n either the source is at its end, or an item goes through and a lesser n is reached -/
theorem clause_loop {R : Shared → Prop} (hC : compTurn (.SetComp elt gens sc pos) k it acc env = turnOf tg src ifs it env body (.compLoop (.SetComp elt gens sc pos) k it acc env)) (I : Nat → Shared → Prop)
    (turn : ∀ n s, I n s → wpAny (model prog w) A (pyNext it) (fun r s1 => (r = none ∧ R s1) ∨ ∃ v, r = some v ∧ wpAny (model prog w) A (letOwnedTupleGo tg it v) (fun _ s2 => wpAny (model prog w) A (assign tg env v) (fun _ s3 => wpAny (model prog w) A (testsOf ifs env) (fun ok s4 =>
      if ok = true then wpAny (model prog w) A body (fun _ s5 => ∃ m, m < n ∧ I m s5) Never s4 else ∃ m, m < n ∧ I m s4) Never s3) Never s2) Never s1) Never s) (n : Nat) (h : I n s) :
    codeAny (model prog w) A (.compLoop (.SetComp elt gens sc pos) k it acc env) (fun r s' => r = .ok .next ∧ R s') s := by
  refine codeAny_loop rfl I (fun n s hI => ?_) n h
  show wpAny _ A ((compTurn (.SetComp elt gens sc pos) k it acc env).onRaise fun x => do noteFrame x env; theTreesLotGoes x) _ _ s
  rw [hC]
  refine wpAny_noted (wpAny_bind (wpAny_standAt (wpAny_bind (thnF (turn n s hI) fun r s1 h1 => ?_))))
  rcases h1 with ⟨rfl, q⟩ | ⟨v, rfl, q⟩
  · exact wpAny_pure ⟨rfl, q⟩
  · refine wpAny_bind (thnF q fun _ s2 q => wpAny_bind (thnF q fun _ s3 q => wpAny_bind (thnF q fun ok s4 q => ?_)))
    cases ok with
    | false => exact wpAny_pure ⟨rfl, q⟩
    | true => exact wpAny_bind (thnF q fun _ s5 q => wpAny_pure ⟨rfl, q⟩)
end
/-! ### the same over the abstract heap -/
/-- what a turn's body does: it leaves the slots beyond vs as they were, and a heap of K -/
abbrev TBd := L2.St → Hp → (Hp → Prop) → Prop
def Kept (vs : List Nat) (σ σ' : L2.St) : Prop := σ'.length = σ.length ∧ ∀ (j : Nat) (v : V), j ∉ vs → σ[j]? = some (some v) → σ'[j]? = some (some v)
theorem Kept.refl {vs : List Nat} {σ : L2.St} : Kept vs σ σ := ⟨rfl, fun _ _ _ e => e⟩
structure PB (X : Cx) (vs : List Nat) (body : Sem Unit) (tb : TBd) : Prop where
  run : ∀ (pins : List (Addr × Obj)) (s : Shared) (σ : L2.St) (H : Hp) (Z : Hp → Prop), Inv X pins σ H s → tb σ H Z → wpAny (model X.prog X.w) X.A body (fun _ s' => ∃ σ' H', Inv X pins σ' H' s' ∧ Kept vs σ σ' ∧ Z H') Never s
/-- a clause's loop over its source -/
def tLp (g : TG) (tt : TT) (tb : TBd) (vs : List Nat) (σ : L2.St) (Z : Hp → Prop) : It → Hp → Prop := fun J H0 => ∃ W : Nat → Nat → Hp → Prop, (∃ m, W 0 m H0) ∧ ∀ i m H, W i m H →
  (J.stop i H ∧ Z H) ∨ (J.go i H ∧ ∃ Nx : Hp → Prop, (∀ H', Nx H' → ∃ m', m' < m ∧ W (i + 1) m' H') ∧ ∀ x H', J.yld i H x H' → g x (wipe σ vs) H' fun σ2 H2 => wipe σ2 vs = wipe σ vs ∧ tt σ2 H2 fun b H3 => if b = true then tb σ2 H3 Nx else Nx H3)
theorem kept_wipe {vs : List Nat} {σ σ2 : L2.St} (h : wipe σ2 vs = wipe σ vs) : (wipe σ vs).length = σ2.length ∧ ∀ (j : Nat) (v : V), (wipe σ vs)[j]? = some (some v) → j ∉ vs ∧ σ2[j]? = some (some v) := by
  rw [← h]
  exact ⟨wipe_length _ _, fun j v e => ⟨(wipe_some e).2, (wipe_some e).1⟩⟩
section
variable {X : Cx} {s : Shared} {elt : Expr} {gens : List Comprehension} {sc : Scope} {pos : Pos} {k : Nat} {acc : Value} {tg src : Expr} {ifs : List Expr} {body : Sem Unit} {g : TG} {tt : TT} {tb : TBd} {wb vs : List Nat}
/-- THE RULE for a clause: its loop, from the state in which its source has just been asked for an iterator -/
theorem clause_run {pins : List (Addr × Obj)} {σ : L2.St} {H : Hp} {it : Addr} {fp : List Addr} {tn : Nat → Heap → Prop} {J : It} {Z : Hp → Prop} (hc : X.calm = true) (never : ∀ e s, X.xe e s → False) (hC : compTurn (.SetComp elt gens sc pos) k (.ref it) acc X.env = turnOf tg src ifs (.ref it) X.env body (.compLoop (.SetComp elt gens sc pos) k (.ref it) acc X.env))
    (hg : PG X tg g) (ht : PTs X ifs tt) (hb : PB X wb body tb) (hw : ∀ j ∈ wb, j ∈ vs) (T : Turn X.prog X.w X.K tg J fp it tn) (I : Inv X pins σ H s) (st : tn 0 s.heap) (hf : ∀ b ∈ fp, FpOk X pins H b) (q : tLp g tt tb vs σ Z J H) :
    codeAny (model X.prog X.w) X.A (.compLoop (.SetComp elt gens sc pos) k (.ref it) acc X.env) (fun r s' => r = .ok .next ∧ ∃ H', Inv X pins (wipe σ vs) H' s' ∧ (∀ b ∈ fp, H' b = none) ∧ Z H') s := by
  obtain ⟨W, ⟨m0, w0⟩, turn⟩ := q
  have fpk : ∀ {H' : Hp}, (∀ b ∈ fp, H' b = none) → ∀ b ∈ fp, FpOk X pins H' b := fun z b hb => ⟨z b hb, (hf b hb).2⟩
  have nv : ∀ {α : Type} {t : Sem α} {Q : α → Shared → Prop} {s : Shared}, wpAny (model X.prog X.w) X.A t Q X.xe s → wpAny (model X.prog X.w) X.A t Q Never s := fun h => wpAny_mono h (fun _ _ q => q) never
  refine clause_loop (R := fun s' => ∃ H', Inv X pins (wipe σ vs) H' s' ∧ (∀ b ∈ fp, H' b = none) ∧ Z H') hC (fun n s' => ∃ i H', Inv X pins (wipe σ vs) H' s' ∧ tn i s'.heap ∧ (∀ b ∈ fp, H' b = none) ∧ W i n H') ?_ m0 ⟨0, H, I.weak (wipe_length _ _) fun j v e => (wipe_some e).1, st, fun b hb => (hf b hb).1, w0⟩
  rintro n s1 ⟨i, H1, I1, st1, n1, w1⟩
  rcases turn i n H1 w1 with ⟨stop, z⟩ | ⟨go, Nx, hNx, step⟩
  · exact thnF (T.done X rfl rfl rfl hc i pins s1 _ H1 Never I1 (fpk n1) st1 stop) fun r s2 ⟨e, I2⟩ => .inl ⟨e, H1, I2, n1, z⟩
  · refine thnF (T.item X rfl rfl rfl hc i pins s1 _ H1 Never I1 (fpk n1) st1 go) fun r s2 ⟨u, e, h2⟩ => .inr ⟨u, e, thnF h2 fun _ s3 ⟨x, H3, I3, r3, y3, st3, n3⟩ => ?_⟩
    have I3p := I3.pinned (fpk n3) (T.obj _ _ st3)
    have fin : ∀ {σ' : L2.St} {s' : Shared} {H' : Hp}, Inv X (pins ++ pinsAt fp s3.heap) σ' H' s' → σ'.length = (wipe σ vs).length → (∀ (j : Nat) (v : V), (wipe σ vs)[j]? = some (some v) → σ'[j]? = some (some v)) → Nx H' →
        ∃ m, m < n ∧ ∃ i H', Inv X pins (wipe σ vs) H' s' ∧ tn i s'.heap ∧ (∀ b ∈ fp, H' b = none) ∧ W i m H' := by
      intro σ' s' H' I' hl hk nx
      obtain ⟨m, hm, w2⟩ := hNx H' nx
      have pinned : ∀ b ∈ fp, ∃ o, s3.heap.get? b = some o ∧ s'.heap.get? b = some o ∧ H' b = none := fun b hb => by
        obtain ⟨o, e, _⟩ := T.obj _ _ st3 b hb
        have p := I'.pin (b, o) (List.mem_append_right _ (List.mem_append_right _ (mem_pinsAt hb e)))
        exact ⟨o, e, p.1, p.2.1⟩
      refine ⟨m, hm, i + 1, H', I'.unpinned.weak hl.symm hk, T.keep _ _ _ st3 fun b hb o e => ?_, fun b hb => ?_, w2⟩
      · obtain ⟨o', e1, e2, _⟩ := pinned b hb
        rw [e] at e1; cases e1; exact e2
      · obtain ⟨_, _, _, e⟩ := pinned b hb; exact e
    refine nv (thn (hg.run _ s3 _ H3 x u _ I3p r3 (step x H3 y3)) fun _ s4 ⟨σ4, H4, I4, hw4, q4⟩ => ?_)
    obtain ⟨l4, k4⟩ := kept_wipe hw4
    refine nv (thn (ht.run _ s4 σ4 H4 _ I4 q4) fun b s5 ⟨H5, I5, q5⟩ => ?_)
    cases b with
    | false => exact iteF (fin I5 l4.symm (fun j v e => (k4 j v e).2) (by simpa using q5))
    | true =>
      refine iteT (thnF (hb.run _ s5 σ4 H5 Nx I5 (by simpa using q5)) fun _ s6 ⟨σ6, H6, I6, kp, z⟩ => ?_)
      exact fin I6 (kp.1.trans l4.symm) (fun j v e => kp.2 j v (fun m => (k4 j v e).1 (hw j m)) (k4 j v e).2) z
end
section
variable {prog : Program} {w : World} {A : Around} {R : Result → Shared → Prop} {s : Shared} {elt : Expr} {gens : List Comprehension} {g : Comprehension} {sc : Scope} {pos : Pos} {k : Nat} {it acc : Value} {env : Env}
/-- a clause's beginning: its source's iterator is asked for itself, or not -/
theorem clause_start (hg : gens[k]? = some g) (ha : g.is_async = 0) (h0 : codeAny (model prog w) A (.compLoop (.SetComp elt gens sc pos) k it acc env) R s)
    (h1 : wpAny (model prog w) A (pyIter it) (fun v s' => codeAny (model prog w) A (.compLoop (.SetComp elt gens sc pos) k v acc env) R s') Never s) : codeAny (model prog w) A (.compStart (.SetComp elt gens sc pos) k it acc env) R s := by
  refine codeAny_of_tree ?_
  show wpAny _ _ ((compStart (.SetComp elt gens sc pos) k it acc env).onRaise fun x => do noteFrame x env; standAt theWindowsPlace) _ _ s
  refine wpAny_notedAt ?_
  unfold compStart
  have e1 : (clausesOf (.SetComp elt gens sc pos))[k]? = some g := hg
  rw [e1]
  have e2 : ((some g).elim false fun x : Comprehension => x.is_async != 0) = false := by show (g.is_async != 0) = false; rw [ha]; rfl
  rw [e2, if_neg (by decide)]
  refine wpAny_bind (wpAny_askSetting ?_)
  split
  · exact wpAny_pure ⟨rfl, h0⟩
  · exact wpAny_bind (wpAny_rule (wpAny_bind (wpAny_standAt (wpAny_bind (thnF h1 fun v s' q => wpAny_pure ⟨rfl, q⟩)))))
end
/-! ### the bodies -/
section
variable {X : Cx}
/-- an int added to the set at D -/
def tAdd (w : World) (D : Addr) (te : TE) : TBd := fun σ H Z => te σ H fun y H4 => ∃ (c : Int) (S : Int → Bool) (n : Nat), y = .int c ∧ H4 D = some (SetO w D S n) ∧ n + 1 < scanBound ∧ Z (upd H4 D (SetO w D (fun j => S j || decide (j = c)) (if S c = true then n else n + 1)))
theorem add_int {pins : List (Addr × Obj)} {σ : L2.St} {H : Hp} {s : Shared} {E : Value → Shared → Prop} {D : Addr} {S : Int → Bool} {n : Nat} {y : Int} {t : Tok} {Q : Value → Shared → Prop} (I : Inv X pins σ H s) (hD : H D = some (SetO X.w D S n)) (room : n + 1 < scanBound)
    (h : ∀ v s', Inv X pins σ (upd H D (SetO X.w D (fun j => S j || decide (j = y)) (if S y = true then n else n + 1))) s' → Q v s') : wpAny (model X.prog X.w) X.A (call (.builtin "set.add") [.ref D, .int y t]) Q E s := by
  refine setR_add (setO_get I hD) room fun h' sb new => h _ _ ?_
  have ho := new.choose_spec.choose_spec.choose_spec.choose_spec.1
  exact I.write (t' := s.toks + 1) (by rw [hD]; trivial) (.inl rfl) (fun b u hb hu => (sb.2 b hb).trans hu) ⟨_, ho⟩ (setO_new new)
theorem pb_add {elt : Expr} {te : TE} {D : Addr} (never : ∀ e s, X.xe e s → False) (he : PE X elt te) : PB X [] (addTo elt (.ref D) X.env) (tAdd X.w D te) := by
  refine ⟨fun pins s σ H Z I q => ?_⟩
  refine wpAny_bind (wpAny_mono (he.run pins s σ H _ I q) (fun u s1 h => wpAny_bind (wpAny_standAt ?_)) never)
  obtain ⟨v, H1, I1, r, c, S, n, rfl, hD, room, z⟩ := h
  obtain ⟨t, rfl⟩ := r
  exact wpAny_bind (add_int I1 hD room fun _ s2 I2 => wpAny_pure ⟨σ, _, I2, .refl, z⟩)
/-- the next clause -/
def tIn (wi : TI) (g : TG) (tt : TT) (tb : TBd) (vs : List Nat) : TBd := fun σ H Z => wi σ H (tLp g tt tb vs σ Z)
theorem pb_in {elt : Expr} {gens : List Comprehension} {sc : Scope} {pos : Pos} {D : Addr} {tg src : Expr} {ifs : List Expr} {k : Nat} {body : Sem Unit} {wi : TI} {g : TG} {tt : TT} {tb : TBd} {wb vs : List Nat} (hc : X.calm = true) (never : ∀ e s, X.xe e s → False)
    (hk : gens[k]? = some ⟨tg, src, ifs, 0⟩) (hC : ∀ it, compTurn (.SetComp elt gens sc pos) k it (.ref D) X.env = turnOf tg src ifs it X.env body (.compLoop (.SetComp elt gens sc pos) k it (.ref D) X.env)) (hs : ∀ x, foldedSetIterable src X.env x = pure x)
    (hi : PI X tg src wi) (hg : PG X tg g) (ht : PTs X ifs tt) (hb : PB X wb body tb) (hw : ∀ j ∈ wb, j ∈ vs) : PB X vs (beginIn (.SetComp elt gens sc pos) src k (.ref D) X.env) (tIn wi g tt tb vs) := by
  refine ⟨fun pins s σ H Z I q => ?_⟩
  refine wpAny_bind (wpAny_mono (hi.run pins s σ H _ I q) (fun u s1 h => wpAny_bind (wpAny_standAt (wpAny_bind (wpAny_of_eq (hs u) (wpAny_bind (wpAny_holding (wpAny_mono h (fun itv s2 h2 => ?_) never))))))) never)
  obtain ⟨it, fp, tn, J, H2, rfl, I2, T, st, hf, q2⟩ := h2
  have loop := clause_run hc never (hC (.ref it)) hg ht hb hw T I2 st hf q2
  refine wpAny_bind (wpAny_runOwn ?_)
  rw [Around.mark_none]
  refine codeAny_mono (clause_start hk rfl loop (T.self _ 0 _ _ _ st loop)) fun r s3 h3 => ?_
  obtain ⟨rfl, H3, I3, _, z⟩ := h3
  exact wpAny_pure ⟨_, H3, I3, ⟨wipe_length _ _, fun j v hj e => by rw [wipe_out hj]; exact e⟩, z⟩
end
theorem wipe_set (τ : L2.St) (v : Nat) : ∀ vs : List Nat, wipe (τ.set v none) vs = (wipe τ vs).set v none
  | [] => rfl
  | u :: vs => by
    unfold wipe
    rw [wipe_set τ v vs]
    by_cases h : v = u
    · subst h; rfl
    · rw [List.set_comm _ _ h]
theorem wipe_wipe (σ : L2.St) : ∀ vs : List Nat, wipe (wipe σ vs) vs = wipe σ vs
  | [] => rfl
  | v :: vs => by
    show (wipe ((wipe σ vs).set v none) vs).set v none = (wipe σ vs).set v none
    rw [wipe_set, wipe_wipe σ vs, List.set_set]
/-! ### the whole of a set's comprehension -/
section
variable {X : Cx}
def tScG (w : World) (wi : TI) (g : TG) (tt : TT) (tb : Addr → TBd) (vs : List Nat) : TE := fun σ H Q => wi σ H fun J H1 => ∀ D, H1 D = none → tLp g tt (tb D) vs σ (Q (.ref D)) J (upd H1 D (SetO w D (fun _ => false) 0))
/-- the block's context -/
abbrev InBlk (X : Cx) (sc : Scope) (B : Cx → Prop) : Prop := ∀ (s : Shared) (H : Hp) (C : Addr) (cl : List (Str × Addr)) (fp : List Addr), B (X.blk s H sc (compEnvC sc cl C X.env) fp)
theorem pe_scG {elt tg src : Expr} {ifs : List Expr} {rest : List Comprehension} {sc : Scope} {pos : Pos} {own : List (Str × Nat)} {wi : TI} {g : TG} {tt : TT} {tb : Addr → TBd} {wb : List Nat} {body : Value → Env → Sem Unit} (hc : X.calm = true) (hN : X.N.Nodup) (hi : PI X tg src wi) (ok : BlkOk X.N X.env.scope sc own) (hw : ∀ j ∈ wb, j ∈ own.map (·.2))
    (hC : ∀ it acc env, compTurn (.SetComp elt (⟨tg, src, ifs, 0⟩ :: rest) sc pos) 0 it acc env = turnOf tg src ifs it env (body acc env) (.compLoop (.SetComp elt (⟨tg, src, ifs, 0⟩ :: rest) sc pos) 0 it acc env))
    (hg : InBlk X sc fun B => PG B tg g) (ht : InBlk X sc fun B => PTs B ifs tt) (hb : InBlk X sc fun B => ∀ D, PB B wb (body (.ref D) B.env) (tb D)) (hs : ∀ x, foldedSetIterable src X.env x = pure x := by intro _; rfl) :
    PE X (.SetComp elt (⟨tg, src, ifs, 0⟩ :: rest) sc pos) (tScG X.w wi g tt tb (own.map (·.2))) := by
  refine ⟨fun pins s σ H Q I q => ?_⟩
  rw [eval_SetComp]
  have free : ∀ y ∈ sc.names, y.2 = .free → ∃ c, X.env.cells.lookup y.1 = some c := fun y hy e => I.ok.has _ ((ok.free y hy e).imp id id)
  refine wpAny_comprehension_free (use := none) rfl hs (closure_ok free) ok.kind (fun y hy e => (ok.uniq y hy).trans (by rw [e])) (thn (hi.run pins s σ H _ I q) fun u s1 h1 => thn h1 fun v s2 h2 => newSet_ok (newEnv_comp ?_))
  obtain ⟨it, fp, tn, J, H2, rfl, I2, T, st, hf, q2⟩ := h2
  -- the new set's address, and the states with it and with the block's frame
  obtain ⟨D, hD⟩ : ∃ D, D = s2.heap.objs.size := ⟨_, rfl⟩
  obtain ⟨s3, hs3⟩ : ∃ s3 : Shared, s3 = { s2 with heap := s2.heap.push { cls := .type "set", dict := none, data := .set #[] 0 (.fresh 0 0 (!X.w.params.followText "set-order")) } } := ⟨_, rfl⟩
  have q3 := q2 D (by rw [hD]; exact I2.hok.fresh (Nat.le_refl _))
  obtain ⟨H3, hH3⟩ : ∃ H3, H3 = upd H2 D (SetO X.w D (fun _ => false) 0) := ⟨_, rfl⟩
  have I3 : Inv X pins σ H3 s3 := by
    subst hs3; subst hH3; subst hD
    exact I2.laid (t' := s2.toks) (fun b o e => Heap.get?_push_of_some _ e) (Nat.le_refl _) (setO_new (setR_fresh X.w))
  have old : ∀ b o, s2.heap.get? b = some o → s3.heap.get? b = some o := fun b o e => by rw [hs3]; exact Heap.get?_push_of_some _ e
  have f3 : ∀ b ∈ fp, FpOk X pins H3 b ∧ b < s3.heap.objs.size := fun b hb => by
    obtain ⟨o, e, _⟩ := T.obj _ _ st b hb
    have lt := Heap.lt_size e
    refine ⟨⟨?_, (hf b hb).2⟩, Heap.lt_size (old b o e)⟩
    rw [hH3, upd_ne (by rw [hD]; exact Nat.ne_of_lt lt)]
    exact (hf b hb).1
  have I4 := block_start I3 ok hN f3
  have B1 := hg s3 H3 s3.heap.objs.size (cellsFrom (s3.heap.objs.size + 1) sc.names (cloFrom X.env.cells sc.names [])) fp
  have B2 := ht s3 H3 s3.heap.objs.size (cellsFrom (s3.heap.objs.size + 1) sc.names (cloFrom X.env.cells sc.names [])) fp
  have B3 := hb s3 H3 s3.heap.objs.size (cellsFrom (s3.heap.objs.size + 1) sc.names (cloFrom X.env.cells sc.names [])) fp D
  have st4 : tn 0 (pushCells (s3.heap.push { cls := .type "dict", data := .dict #[] }) sc.names) := T.keep _ _ _ st fun b _ o e => pushCells_keeps _ _ _ _ (Heap.get?_push_of_some _ (old b o e))
  have hf4 : ∀ b ∈ fp, FpOk (X.blk s3 H3 sc (compEnvC sc (cellsFrom (s3.heap.objs.size + 1) sc.names (cloFrom X.env.cells sc.names [])) s3.heap.objs.size X.env) fp) [] H3 b := fun b hb =>
    ⟨(f3 b hb).1.1, (I4.ok.exf b hb).1, I4.ok.exfs b hb, .inl hb, fun x c e => (I4.ok.exf b hb).2 x c e, fun p hp => by cases hp⟩
  rw [← hH3] at q3
  have loop := clause_run (pins := []) (X := X.blk s3 H3 sc (compEnvC sc (cellsFrom (s3.heap.objs.size + 1) sc.names (cloFrom X.env.cells sc.names [])) s3.heap.objs.size X.env) fp) hc (fun _ _ h => h) (hC (.ref it) (.ref D) _) B1 B2 B3 hw T I4 st4 hf4 (by unfold tLp at q3 ⊢; rw [wipe_wipe]; exact q3)
  -- behind the loop: the def's own context again, and the block's frame let go
  have fin : ∀ s4 : Shared, (∃ H4, Inv (X.blk s3 H3 sc (compEnvC sc (cellsFrom (s3.heap.objs.size + 1) sc.names (cloFrom X.env.cells sc.names [])) s3.heap.objs.size X.env) fp) [] (wipe (wipe σ (own.map (·.2))) (own.map (·.2))) H4 s4 ∧ (∀ b ∈ fp, H4 b = none) ∧ Q (.ref D) H4) →
      ∃ m, s4.heap.Ns s3.heap.objs.size m ∧ ∀ h', Heap.SameBut s3.heap.objs.size s4.heap h' → EP X pins σ Q (.ref D) { s4 with heap := h' } := by
    rintro s4 ⟨H4, I5, _, z⟩
    obtain ⟨m, ns, _⟩ := I5.loc
    refine ⟨m, ns, fun h' sb => ?_⟩
    have I6 : Inv X pins σ H4 s4 := I3.call' (ch := fp) I5.os I5.base I5.hok I5.bare fun b hb => by
      obtain ⟨_, a1, _, a3, a4, a5⟩ := (f3 b hb).1
      exact ⟨a3, a1, a4, a5⟩
    obtain ⟨a0, a1, _, a3, a4, a5⟩ := I3.fpOk (H' := H4) (Nat.le_refl _) I5.free
    exact ⟨.ref D, H4, I6.turned (t' := s4.toks) (fun b o hb e => (sb.2 b hb).trans e) a0 a1 a3 a4 a5, rfl, z⟩
  subst hD; subst hs3
  refine codeAny_mono (clause_start (k := 0) rfl rfl loop (T.self _ 0 _ _ _ st4 loop)) fun r s4 h4 => ?_
  obtain ⟨rfl, h⟩ := h4
  exact fin s4 h
/-- {elt for tg in src if ..} of ints -/
theorem pe_sci1 {elt tg src : Expr} {ifs : List Expr} {sc : Scope} {pos : Pos} {own : List (Str × Nat)} {wi : TI} {g : TG} {tt : TT} {te : TE} (hc : X.calm = true) (hN : X.N.Nodup) (hi : PI X tg src wi) (ok : BlkOk X.N X.env.scope sc own)
    (hg : InBlk X sc fun B => PG B tg g) (ht : InBlk X sc fun B => PTs B ifs tt) (he : InBlk X sc fun B => PE B elt te) (hs : ∀ x, foldedSetIterable src X.env x = pure x := by intro _; rfl) : PE X (.SetComp elt [⟨tg, src, ifs, 0⟩] sc pos) (tScG X.w wi g tt (fun D => tAdd X.w D te) (own.map (·.2))) :=
  pe_scG (rest := []) (wb := []) hc hN hi ok (fun _ h => by cases h) (fun it acc env => turn_s1 ..) hg ht (fun s H C cl fp D => pb_add (fun _ _ h => h) (he s H C cl fp)) hs
/-- {elt for tg in src if .. for tg1 in src1 if ..} of ints -/
theorem pe_sci2 {elt tg src tg1 src1 : Expr} {ifs ifs1 : List Expr} {sc : Scope} {pos : Pos} {own : List (Str × Nat)} {vs1 : List Nat} {wi wi1 : TI} {g g1 : TG} {tt tt1 : TT} {te : TE} (hc : X.calm = true) (hN : X.N.Nodup) (hi : PI X tg src wi) (ok : BlkOk X.N X.env.scope sc own) (hv : ∀ j ∈ vs1, j ∈ own.map (·.2))
    (hg : InBlk X sc fun B => PG B tg g) (ht : InBlk X sc fun B => PTs B ifs tt) (hi1 : InBlk X sc fun B => PI B tg1 src1 wi1) (hg1 : InBlk X sc fun B => PG B tg1 g1) (ht1 : InBlk X sc fun B => PTs B ifs1 tt1) (he : InBlk X sc fun B => PE B elt te)
    (hs : ∀ x, foldedSetIterable src X.env x = pure x := by intro _; rfl) (hs1 : ∀ env x, foldedSetIterable src1 env x = pure x := by intro _ _; rfl) :
    PE X (.SetComp elt [⟨tg, src, ifs, 0⟩, ⟨tg1, src1, ifs1, 0⟩] sc pos) (tScG X.w wi g tt (fun D => tIn wi1 g1 tt1 (tAdd X.w D te) vs1) (own.map (·.2))) :=
  pe_scG (rest := [⟨tg1, src1, ifs1, 0⟩]) (wb := vs1) hc hN hi ok hv (fun it acc env => turn_s2a ..) hg ht
    (fun s H C cl fp D => pb_in (k := 1) hc (fun _ _ h => h) rfl (fun it => turn_s2b ..) (hs1 _) (hi1 s H C cl fp) (hg1 s H C cl fp) (ht1 s H C cl fp) (pb_add (fun _ _ h => h) (he s H C cl fp)) (fun _ h => by cases h)) hs
end
end Co

set_option Elab.async false
set_option linter.all false
set_option maxRecDepth 100000
set_option maxHeartbeats 4000000
namespace Co
open PySem PySem.Spec PyProof.Rows L2
/-! ### zip of a text and a tuple -/
def ItzST (K : PySem.W.Frag) (x : Str) (b : Addr) : It :=
  ⟨fun i H => ∃ (ys : List V), SqT K H b ys ∧ i < x.cps.size ∧ i < ys.length,
    fun i H v H' => ∃ T c y, v = .ref T ∧ H T = none ∧ H' = upd H T (.tup [.str ⟨#[c]⟩, y]) ∧ x.cps[i]? = some c ∧ ∀ ys, SqT K H b ys → ys[i]? = some y,
    fun i H => ∃ ys : List V, SqT K H b ys ∧ i ≤ x.cps.size ∧ i ≤ ys.length ∧ (i = x.cps.size ∨ i = ys.length)⟩
/-- the five objects of such a zip, as they stand before its turn `i` -/
structure ZAt (x : Str) (tk0 : Tok) (b z TI TO i1 i2 : Addr) (i : Nat) (h : Heap) : Prop where
  zip : IsZip h z TI TO .none
  ins : IsTupOf2 h TI (.ref i1) (.ref i2)
  outs : ∃ x y, IsTupOf2 h TO x y
  txt : h.IsStrIter i1 (strIterType x) x tk0 i
  tup : h.IsTupleIter i2 b i
/-- what is asked of each of five may be asked of one after the other -/
theorem all5 {p : Addr → Prop} {a b c d e : Addr} (ha : p a) (hb : p b) (hc : p c) (hd : p d) (he : p e) : ∀ y, y ∈ [a, b, c, d, e] → p y := by
  simpa using ⟨ha, hb, hc, hd, he⟩
theorem no5 {a b c d e y : Addr} (h : y ∉ [a, b, c, d, e]) : y ≠ a ∧ y ≠ b ∧ y ≠ c ∧ y ≠ d ∧ y ≠ e := by
  simpa [not_or] using h
theorem ZAt.small {x : Str} {tk0 : Tok} {b z TI TO i1 i2 : Addr} {i : Nat} {h : Heap} (q : ZAt x tk0 b z TI TO i1 i2 i h) : ∀ c, c ∈ [z, TI, TO, i1, i2] → c < h.objs.size := by
  obtain ⟨_, _, q3⟩ := q.outs
  obtain ⟨_, q4, _⟩ := q.txt
  obtain ⟨_, q5, _⟩ := q.tup
  exact all5 (Heap.lt_size q.zip) (Heap.lt_size q.ins) (Heap.lt_size q3) (Heap.lt_size q4) (Heap.lt_size q5)
theorem sep_of {z TI TO i1 i2 b : Addr} (D : ZipApart z TI TO i1 i2 b b) : ZipSep2 z TI TO i1 i2 [i1] [i2, b] := by
  have h1 := D.i1z.symm
  have h2 := D.i2z.symm
  have h3 := D.l1z.symm
  have h4 := D.l1TO.symm
  have h5 := D.l1i1.symm
  have h6 := D.i12.symm
  constructor <;> simp [D.TIz, D.TOz, D.TITO, D.TIi1, D.TIi2, D.TOi1, D.TOi2, D.i12, h1, h2, h3, h4, h5, h6]
theorem turn_zipST {P : Program} {w : World} {K : PySem.W.Frag} {elts : List Expr} {kk : Nat} {tpos : Pos} {x : Str} {tk0 : Tok} {b z TI TO i1 i2 : Addr} (D : ZipApart z TI TO i1 i2 b b) :
    Turn P w K (.Tuple elts kk tpos) (ItzST K x b) [z, TI, TO, i1, i2] z (ZAt x tk0 b z TI TO i1 i2) where
  mem := List.mem_cons_self
  obj := fun i h q => by
    obtain ⟨_, _, q3⟩ := q.outs
    obtain ⟨_, q4, _, d4⟩ := q.txt
    obtain ⟨_, q5, _, d5⟩ := q.tup
    refine all5 ⟨_, q.zip, ?_⟩ ⟨_, q.ins, ?_⟩ ⟨_, q3, ?_⟩ ⟨_, q4, ?_⟩ ⟨_, q5, ?_⟩ <;> intro v e <;> simp_all
  keep := fun i h h' q k => by
    have k' : ∀ c, c ∈ [z, TI, TO, i1, i2] → ∀ o, h.get? c = some o → h'.get? c = some o := k
    obtain ⟨u, v, q3⟩ := q.outs
    obtain ⟨o4, q4, r4⟩ := q.txt
    exact ⟨k' _ (by simp) _ q.zip, k' _ (by simp) _ q.ins, ⟨u, v, k' _ (by simp) _ q3⟩, ⟨o4, k' _ (by simp) _ q4, r4⟩, q.tup.at (k' _ (by simp))⟩
  item := by
    rintro X rfl rfl rfl hc i pins s σ H E I hf q ⟨ys, hy, l1, l2⟩
    obtain ⟨vs, rv, tv, _⟩ := I.tuple hy
    obtain ⟨_, _, q3⟩ := q.outs
    have hd : X.A.in1.handled = none := I.ok.hd hc
    obtain ⟨u, hu, ru⟩ := rv.get (List.getElem?_eq_getElem l2)
    have lv : i < vs.toArray.size := by
      have := (List.getElem?_eq_some_iff.mp hu).1
      simpa using this
    refine wpAny_pyNext_zipD2_item (sep_of D) (Draws.text hd i1 x tk0) (Draws.tuple hd i2 b D.l1i2 vs.toArray) q.zip q.ins q3 q.txt ⟨q.tup, tv⟩ l1 lv fun a1 a2 h1 t1 P1 P2 z1 o1 f1 f2 new _ kp => ?_
    obtain ⟨c, tc, hx, rfl⟩ := P1
    obtain rfl : u = a2 := by
      have : vs[i]? = some a2 := by simpa using P2
      simpa [hu] using this
    refine ⟨_, rfl, wpAny_letOwnedTupleGo_zip (s := { s with heap := h1, toks := t1 }) z1 fun h2 z2 sb => ?_⟩
    have sm := q.small
    have kp2 : ∀ a o, a ∉ [z, TI, TO, i1, i2] → s.heap.get? a = some o → h2.get? a = some o := fun a o na e => by
      obtain ⟨n1, _, n3, n4, n5⟩ := no5 na
      by_cases hb : a = TI
      · exact absurd hb (no5 na).2.1
      · exact (sb.2 a n1).trans (kp a o n1 n3 n4 n5 e)
    have nt : h2.get? s.heap.objs.size = some { cls := .type "tuple", data := .seq #[.str ⟨#[c]⟩ tc, u] } :=
      (sb.2 _ (Nat.ne_of_gt (sm z (by simp)))).trans new
    have pair : ObjOk X.prog X.w (upd H s.heap.objs.size (.tup [.str ⟨#[c]⟩, ys[i]])) h2 s.heap.objs.size (.tup [.str ⟨#[c]⟩, ys[i]]) :=
      ⟨(by decide : 2 ≤ sizeLine), [.str ⟨#[c]⟩ tc, u], .cons ⟨tc, rfl⟩ (.cons ru .nil), ⟨_, nt, rfl, _, rfl⟩⟩
    have J : L2.Inv X pins σ (upd H s.heap.objs.size (.tup [.str ⟨#[c]⟩, ys[i]])) { s with heap := h2, toks := t1 } :=
      I.turnedNew (t' := t1) (ch := [z, TI, TO, i1, i2]) kp2 hf (Nat.le_refl _) pair
    obtain ⟨ob, g1, r1⟩ := f1
    refine ⟨.ref s.heap.objs.size, _, J, rfl, ⟨_, c, ys[i], rfl, I.hok.fresh (Nat.le_refl _), rfl, hx, fun l hl => ?_⟩,
      { zip := z2, ins := (sb.2 _ D.TIz).trans (kp _ _ D.TIz D.TITO D.TIi1 D.TIi2 q.ins), outs := ⟨_, u, (sb.2 _ D.TOz).trans o1⟩, txt := ⟨ob, (sb.2 _ D.i1z).trans g1, r1⟩, tup := f2.1.at fun o e => (sb.2 _ D.i2z).trans e }, fun a ha => ?_⟩
    · obtain rfl := I.tuple_inj hl hy
      exact List.getElem?_eq_getElem l2
    · exact (upd_ne (Nat.ne_of_lt (sm a ha))).trans (hf a ha).1
  done := by
    rintro X rfl rfl rfl hc i pins s σ H E I hf q ⟨ys, hy, l1, l2, l3⟩
    obtain ⟨vs, rv, tv, _⟩ := I.tuple hy
    obtain ⟨_, _, q3⟩ := q.outs
    have hd : X.A.in1.handled = none := I.ok.hd hc
    have e2 : vs.toArray.size = ys.length := by simpa using rv.length.symm
    refine wpAny_pyNext_zipD2_end (sep_of D) (Draws.text hd i1 x tk0) (Draws.tuple hd i2 b D.l1i2 vs.toArray) q.zip q.ins q3 q.txt ⟨q.tup, tv⟩ l1 (by omega) (by omega) fun h' tk kp => ⟨rfl, I.turnedL (t' := tk) (ch := [z, TI, TO, i1, i2]) (fun a o na e => ?_) hf⟩
    obtain ⟨n1, _, n3, n4, n5⟩ := no5 na
    exact kp a o n1 n3 n4 n5 e
  self := fun _ _ _ _ _ q h => wpAny_pyIter_zip q.zip h
def iZipST (K : PySem.W.Frag) (ta : TA) : TI := fun σ H R => ta σ H fun vs H1 => ∃ x b ys, vs = [.str x, .ref b] ∧ SqT K H1 b ys ∧ R (ItzST K x b) H1
theorem pi_zipST {X : Cx} {e e2 : Expr} {ta : TA} {p pos tpos : Pos} {elts : List Expr} {kk : Nat} (hg : Gl X "zip") (hm : X.mg "zip" = none) (ha : PA X [e, e2] ta)
    (hs : starEach [e, e2] X.env = (false, eval e X.env) :: starEach [e2] X.env := by rfl) (hpl : (backTo pos (starEach [e2] X.env)).any (·.1) = false := by rfl) :
    PI X (.Tuple elts kk tpos) (.Call (.Name "zip" p) [e, e2] [] pos) (iZipST X.K ta) where
  run pins s σ H R I h := by
    have go := ha.run pos pins s σ H _ I h
    refine Call_ (ld_blt I hg hm PyProof.Rows.boot_zip (PyProof.Rows.callWith_type1 (thn go ?_) hs hpl))
    rintro us s1 ⟨vs, H1, J, r1, x, b, ys, rfl, hy, q⟩
    match us, r1 with
    | [_, _], .cons ⟨tk0, rfl⟩ (.cons rfl .nil) =>
      obtain ⟨its, _, tv, _⟩ := J.tuple hy
      obtain ⟨_, hb, _⟩ := id tv
      have lb := Heap.lt_size hb
      let n := s1.heap.objs.size
      have up : ∀ c, c ∈ [n + 4, n + 2, n + 3, n, n + 1] → n ≤ c := all5 (by omega) (by omega) (by omega) (by omega) (by omega)
      refine zip_begins2 (begins_text x tk0) (begins_tuple b its.toArray) trivial (show s1.heap.IsTuple b its.toArray from tv) fun h' q1 q2 q3 q4 q5 _ kp => wpAny_pyIter_zip q1 ?_
      exact ⟨n + 4, [n + 4, n + 2, n + 3, n, n + 1], _, _, H1, rfl, J.kept (t' := s1.toks) kp, turn_zipST (PySem.W.ktu_apart n b b lb lb),
        ⟨q1, q2, ⟨_, _, q3⟩, ⟨_, q4, rfl, rfl⟩, ⟨_, q5, rfl, rfl⟩⟩, fun c hc => J.fpOk (up c hc) (J.hok.fresh (up c hc)), q⟩

open PpSet
theorem pg_tupK {X : Cx} {K' : PySem.W.Frag} {es : List Expr} {k : Nat} {t : TGs} {n : Nat} {pos : Pos} (hK : X.K = K') (hc : X.calm = true) (h : PGs X es t)
    (hn : (assignEach es X.env).length = n := by rfl) (hst : (assignEach es X.env).findIdx? (·.1) = none := by rfl) : PG X (.Tuple es k pos) (gTup K' n t) := by
  subst hK
  exact pg_tup hc h hn hst
section
variable {X : Cx} {K' : PySem.W.Frag}
theorem op_in_seqK (hK : X.K = K') : OpR X (compareOp .In) (rIn K' false) := by subst hK; exact op_in_seq
theorem op_notIn_seqK (hK : X.K = K') : OpR X (compareOp .NotIn) (rIn K' true) := by subst hK; exact op_notIn_seq
theorem ix_listK (hK : X.K = K') : IxR X (rIxL K') := by subst hK; exact ix_list
theorem ix_tupK (hK : X.K = K') : IxR X (rIxT K') := by subst hK; exact ix_tup
theorem call_lenQK (hK : X.K = K') : CallR X (.builtin "len") (rLenQ K') := by subst hK; exact call_lenQ
end
/-! ### readings of these -/
def kZ (K : PySem.W.Frag) (R : It → Hp → Prop) : List V → Hp → Prop := fun vs H1 => ∃ x b ys, vs = [.str x, .ref b] ∧ SqT K H1 b ys ∧ R (ItzST K x b) H1
theorem w_zST {K : PySem.W.Frag} {ta : TA} {σ : L2.St} {H : Hp} {R : It → Hp → Prop} (q : ta σ H (kZ K R)) : iZipST K ta σ H R := q
theorem w_forZ {K : PySem.W.Frag} {g : TG} {tb : TS} {D : Ends} {σ : L2.St} {H : Hp} {x : Str} {b : Addr} (ys : List V) (Pv : Nat → L2.St → Hp → Prop) (hq : SqT K H b ys) (hle : x.cps.size = ys.length) (h0 : Pv 0 σ H) (hl : ∀ i σ H, Pv i σ H → SqT K H b ys)
    (hs : ∀ i c y T σ H H', x.cps[i]? = some c → ys[i]? = some y → Pv i σ H → H T = none → Same H H' → H' T = some (.tup [.str ⟨#[c]⟩, y]) → g (.ref T) σ H' fun σ2 H2 => tb { D with nx := Pv (i + 1), ct := Pv (i + 1), bk := D.nx } σ2 H2)
    (hd : ∀ σ H, Pv ys.length σ H → D.nx σ H) : kZ K (kFor g tb D σ) [.str x, .ref b] H := by
  refine ⟨x, b, ys, rfl, hq, fun i m σ H => m = ys.length - i ∧ i ≤ ys.length ∧ Pv i σ H, ⟨ys.length, by simp, Nat.zero_le _, h0⟩, ?_⟩
  rintro i m σ H ⟨rfl, hi, p⟩
  have q := hl i σ H p
  by_cases hlt : i < ys.length
  · refine .inr ⟨⟨ys, q, by omega, hlt⟩, Pv (i + 1), fun σ' H' p' => ⟨ys.length - (i + 1), by omega, rfl, hlt, p'⟩, fun v H' y => ?_⟩
    obtain ⟨T, c, y, rfl, nT, rfl, hc, hy⟩ := y
    exact hs i c y T σ H _ hc (hy ys q) p nT (Same.new nT) upd_same
  · have e : i = ys.length := by omega
    subst e
    exact .inl ⟨⟨ys, q, by omega, Nat.le_refl _, .inr rfl⟩, hd σ H p⟩
theorem w_lcZ {K : PySem.W.Frag} {g : TG} {tt : TT} {te : TE} {vs : List Nat} {σ : L2.St} {H : Hp} {Q : VK} {x : Str} {b : Addr} (ys : List V) (Pv : Addr → Nat → Hp → Prop) (hq : SqT K H b ys) (hle : x.cps.size = ys.length) (h0 : ∀ D, H D = none → Pv D 0 (upd H D (.lst []))) (hl : ∀ D i H, Pv D i H → SqT K H b ys)
    (hs : ∀ D i c y T H H', x.cps[i]? = some c → ys[i]? = some y → Pv D i H → H T = none → Same H H' → H' T = some (.tup [.str ⟨#[c]⟩, y]) → g (.ref T) (wipe σ vs) H' fun σ2 H2 => wipe σ2 vs = wipe σ vs ∧ tt σ2 H2 fun b H3 =>
      if b = true then te σ2 H3 fun y H4 => ∃ acc, H4 D = some (.lst acc) ∧ acc.length < sizeLine ∧ Pv D (i + 1) (upd H4 D (.lst (acc ++ [y]))) else Pv D (i + 1) H3) (hd : ∀ D H', H D = none → Pv D ys.length H' → Q (.ref D) H') : kZ K (kLc g tt te vs σ Q) [.str x, .ref b] H := by
  refine ⟨x, b, ys, rfl, hq, fun D nD => ⟨fun i m H => m = ys.length - i ∧ i ≤ ys.length ∧ Pv D i H, ⟨ys.length, by simp, Nat.zero_le _, h0 D nD⟩, ?_⟩⟩
  rintro i m H' ⟨rfl, hi, p⟩
  have q := hl D i H' p
  by_cases hlt : i < ys.length
  · refine .inr ⟨⟨ys, q, by omega, hlt⟩, Pv D (i + 1), fun H2 p' => ⟨ys.length - (i + 1), by omega, rfl, hlt, p'⟩, fun v H2 y => ?_⟩
    obtain ⟨T, c, y, rfl, nT, rfl, hc, hy⟩ := y
    exact hs D i c y T H' _ hc (hy ys q) p nT (Same.new nT) upd_same
  · have e : i = ys.length := by omega
    subst e
    exact .inl ⟨⟨ys, q, by omega, Nat.le_refl _, .inr rfl⟩, hd D H' nD p⟩
def kSt (R : It → Hp → Prop) : V → Hp → Prop := fun v H1 => ∃ x, v = .str x ∧ R (Its x) H1
theorem w_iSt {te : TE} {σ : L2.St} {H : Hp} {R : It → Hp → Prop} (q : te σ H (kSt R)) : iStr te σ H R := q
theorem w_forS {g : TG} {tb : TS} {D : Ends} {σ : L2.St} {H : Hp} {x : Str} (Pv : Nat → L2.St → Hp → Prop) (h0 : Pv 0 σ H)
    (hs : ∀ i c σ H, x.cps[i]? = some c → Pv i σ H → g (.str ⟨#[c]⟩) σ H fun σ2 H2 => tb { D with nx := Pv (i + 1), ct := Pv (i + 1), bk := D.nx } σ2 H2)
    (hd : ∀ σ H, Pv x.cps.size σ H → D.nx σ H) : kSt (kFor g tb D σ) (.str x) H := by
  refine ⟨x, rfl, fun i m σ H => m = x.cps.size - i ∧ i ≤ x.cps.size ∧ Pv i σ H, ⟨x.cps.size, by simp, Nat.zero_le _, h0⟩, ?_⟩
  rintro i m σ H ⟨rfl, hi, p⟩
  by_cases hlt : i < x.cps.size
  · refine .inr ⟨hlt, Pv (i + 1), fun σ' H' p' => ⟨x.cps.size - (i + 1), by omega, rfl, hlt, p'⟩, fun v H' y => ?_⟩
    obtain ⟨rfl, c, hc, rfl⟩ := y
    exact hs i c σ _ hc p
  · have e : i = x.cps.size := by omega
    subst e
    exact .inl ⟨Nat.le_refl _, hd σ H p⟩
/-- t[1:] of a tuple of two and more -/
theorem w_sl {r : V → Option Int → Option Int → Hp → VK → Prop} {te : TE} {tl th : TO} {σ : L2.St} {H : Hp} {Q : VK} (q : te σ H fun x H1 => tl σ H1 fun l H2 => th σ H2 fun u H3 => r x l u H3 Q) : tSl r te tl th σ H Q := q
theorem w_part {te : TE} {σ : L2.St} {H : Hp} {Q : Option Int → Hp → Prop} (q : te σ H fun x H1 => ∃ i, x = .int i ∧ Q (some i) H1) : tPart te σ H Q := q
theorem w_noPart {σ : L2.St} {H : Hp} {Q : Option Int → Hp → Prop} (q : Q none H) : tNoPart σ H Q := q
theorem w_exI {i : Int} {Q : Int → Prop} (q : Q i) : ∃ j, V.int i = .int j ∧ Q j := ⟨i, rfl, q⟩
theorem w_rSl1 {K : PySem.W.Frag} {H : Hp} {Q : VK} {a : Addr} {v y : V} {r : List V} (h : SqT K H a (v :: y :: r)) (q : ∀ p H', H p = none → Same H H' → H' p = some (.tup (y :: r)) → Q (.ref p) H') : rSlA K (.ref a) (some 1) none H Q := by
  refine ⟨a, _, rfl, h, fun ⟨e, _⟩ => ?_, fun _ p np => ?_⟩
  · rw [show HT.sIx (v :: y :: r).length 0 (some 1) = min 1 (v :: y :: r).length from HT.sIx_nat _ 0 1] at e
    simp at e
  · refine q p _ np (Same.new np) ?_
    have e : cutV (v :: y :: r) (some 1) none = y :: r := by
      unfold cutV
      rw [show HT.sIx (v :: y :: r).length 0 (some 1) = min 1 (v :: y :: r).length from HT.sIx_nat _ 0 1, HT.sIx_none]
      rw [show min 1 (v :: y :: r).length = 1 by simp]
      simp
    rw [e]; exact upd_same
def kScG (w : World) (g : TG) (tt : TT) (tb : Addr → TBd) (vs : List Nat) (σ : L2.St) (Q : VK) : It → Hp → Prop := fun J H1 => ∀ D, H1 D = none → tLp g tt (tb D) vs σ (Q (.ref D)) J (upd H1 D (SetO w D (fun _ => false) 0))
theorem w_sc {w : World} {wi : TI} {g : TG} {tt : TT} {tb : Addr → TBd} {vs : List Nat} {σ : L2.St} {H : Hp} {Q : VK} (q : wi σ H (kScG w g tt tb vs σ Q)) : tScG w wi g tt tb vs σ H Q := q
/-- a clause's loop over a list or a tuple, by an invariant -/
theorem w_lpG {It0 : It} {g : TG} {tt : TT} {tb : TBd} {vs : List Nat} {σ : L2.St} {H : Hp} {Z : Hp → Prop} (xs : List V) (Pv : Nat → Hp → Prop) (h0 : Pv 0 H) (go : ∀ i H, i < xs.length → Pv i H → It0.go i H) (stop : ∀ H, Pv xs.length H → It0.stop xs.length H) (yld : ∀ i H x H', Pv i H → It0.yld i H x H' → H' = H ∧ xs[i]? = some x)
    (hs : ∀ i x H, xs[i]? = some x → Pv i H → g x (wipe σ vs) H fun σ2 H2 => wipe σ2 vs = wipe σ vs ∧ tt σ2 H2 fun b H3 => if b = true then tb σ2 H3 (Pv (i + 1)) else Pv (i + 1) H3) (hd : ∀ H, Pv xs.length H → Z H) : tLp g tt tb vs σ Z It0 H := by
  refine ⟨fun i m H => m = xs.length - i ∧ i ≤ xs.length ∧ Pv i H, ⟨xs.length, by simp, Nat.zero_le _, h0⟩, ?_⟩
  rintro i m H' ⟨rfl, hi, p⟩
  rcases Nat.lt_or_ge i xs.length with lt | ge
  · refine .inr ⟨go i H' lt p, Pv (i + 1), fun H2 p2 => ⟨xs.length - (i + 1), by omega, rfl, lt, p2⟩, fun v H2 y => ?_⟩
    obtain ⟨rfl, e⟩ := yld i H' v H2 p y
    exact hs i v _ e p
  · obtain rfl : i = xs.length := by omega
    exact .inl ⟨stop H' p, hd H' p⟩
theorem w_lpL {K : PySem.W.Frag} {g : TG} {tt : TT} {tb : TBd} {vs : List Nat} {σ : L2.St} {H : Hp} {Z : Hp → Prop} {a : Addr} (xs : List V) (Pv : Nat → Hp → Prop) (h0 : Pv 0 H) (hl : ∀ i H, Pv i H → SqL K H a xs)
    (hs : ∀ i x H, xs[i]? = some x → Pv i H → g x (wipe σ vs) H fun σ2 H2 => wipe σ2 vs = wipe σ vs ∧ tt σ2 H2 fun b H3 => if b = true then tb σ2 H3 (Pv (i + 1)) else Pv (i + 1) H3) (hd : ∀ H, Pv xs.length H → Z H) : tLp g tt tb vs σ Z (Itl K a) H :=
  w_lpG xs Pv h0 (fun i H lt p => ⟨xs, xs[i], hl i H p, by simp [lt]⟩) (fun H p => ⟨xs, hl _ H p, Nat.le_refl _⟩) (fun i H x H' p y => ⟨y.1, y.2 xs (hl i H p)⟩) hs hd
theorem w_lpT {K : PySem.W.Frag} {g : TG} {tt : TT} {tb : TBd} {vs : List Nat} {σ : L2.St} {H : Hp} {Z : Hp → Prop} {a : Addr} (xs : List V) (Pv : Nat → Hp → Prop) (h0 : Pv 0 H) (hl : ∀ i H, Pv i H → SqT K H a xs)
    (hs : ∀ i x H, xs[i]? = some x → Pv i H → g x (wipe σ vs) H fun σ2 H2 => wipe σ2 vs = wipe σ vs ∧ tt σ2 H2 fun b H3 => if b = true then tb σ2 H3 (Pv (i + 1)) else Pv (i + 1) H3) (hd : ∀ H, Pv xs.length H → Z H) : tLp g tt tb vs σ Z (Itt K a) H :=
  w_lpG xs Pv h0 (fun i H lt p => ⟨xs, xs[i], hl i H p, by simp [lt]⟩) (fun H p => ⟨xs, hl _ H p, Nat.le_refl _⟩) (fun i H x H' p y => ⟨y.1, y.2 xs (hl i H p)⟩) hs hd
theorem w_scL {K : PySem.W.Frag} {w : World} {g : TG} {tt : TT} {te : TE} {vs : List Nat} {σ : L2.St} {H : Hp} {Q : VK} {a : Addr} (xs : List V) (Pv : Addr → Nat → Hp → Prop) (hS : SqL K H a xs) (h0 : ∀ D, H D = none → Pv D 0 (upd H D (SetO w D (fun _ => false) 0))) (hl : ∀ D i H, Pv D i H → SqL K H a xs)
    (hs : ∀ D i x H, xs[i]? = some x → Pv D i H → g x (wipe σ vs) H fun σ2 H2 => wipe σ2 vs = wipe σ vs ∧ tt σ2 H2 fun b H3 => if b = true then te σ2 H3 fun y H4 => ∃ (c : Int) (S : Int → Bool) (n : Nat), y = .int c ∧ H4 D = some (SetO w D S n) ∧ n + 1 < scanBound ∧ Pv D (i + 1) (upd H4 D (SetO w D (fun j => S j || decide (j = c)) (if S c = true then n else n + 1))) else Pv D (i + 1) H3)
    (hd : ∀ D H', H D = none → Pv D xs.length H' → Q (.ref D) H') : kIL K (kScG w g tt (fun D => tAdd w D te) vs σ Q) (.ref a) H :=
  ⟨a, rfl, ⟨_, hS⟩, fun D nD => w_lpL xs (Pv D) (h0 D nD) (hl D) (hs D) fun H' p => hd D H' nD p⟩
theorem asc_eq : ∀ {l m : List Int}, l.Pairwise (· < ·) → m.Pairwise (· < ·) → (∀ k, k ∈ l ↔ k ∈ m) → l = m
  | [], [], _, _, _ => rfl
  | [], y :: m, _, _, h => by have := (h y).mpr (by simp); simp at this
  | x :: l, [], _, _, h => by have := (h x).mp (by simp); simp at this
  | x :: l, y :: m, p, q, h => by
    rw [List.pairwise_cons] at p q
    have e : x = y := by
      have a := (h x).mp (by simp)
      have b := (h y).mpr (by simp)
      rw [List.mem_cons] at a b
      rcases a with a | a
      · exact a
      · rcases b with b | b
        · exact b.symm
        · have := q.1 x a; have := p.1 y b; omega
    subst e
    congr 1
    refine asc_eq p.2 q.2 fun k => ⟨fun hk => ?_, fun hk => ?_⟩
    · have := (h k).mp (List.mem_cons_of_mem _ hk)
      rw [List.mem_cons] at this
      rcases this with e | e
      · subst e; have := p.1 k hk; omega
      · exact e
    · have := (h k).mpr (List.mem_cons_of_mem _ hk)
      rw [List.mem_cons] at this
      rcases this with e | e
      · subst e; have := q.1 k hk; omega
      · exact e
/-! ### texts, indices, sets -/
def Evl0.rInSQ : R2 := fun x y H Q => ∃ (c : Nat) (z : Str), x = .str ⟨#[c]⟩ ∧ y = .str z ∧ Q (.bl (decide (c ∈ z.cps.toList))) H
theorem op_inSQ {X : Cx} : OpR X (compareOp .In) Evl0.rInSQ := op_in_sign
theorem w_m1 {r : V → List V → Hp → VK → Prop} {to te : TE} {σ : L2.St} {H : Hp} {Q : VK} (q : to σ H fun x H1 => (∃ a, x = .str a) ∧ te σ H1 fun y H2 => r x [y] H2 Q) : tM1 r to te σ H Q := q
theorem w_isS {a : Str} {B : Prop} (q : B) : (∃ b, V.str a = .str b) ∧ B := ⟨⟨a, rfl⟩, q⟩
def rStartsQ : V → List V → Hp → VK → Prop := fun x xs H Q => ∃ a b, x = .str a ∧ xs = [.str b] ∧ Q (.bl (Txt.startswith a b)) H
theorem mt_startsQ {X : Cx} : MtR X "str.startswith" rStartsQ := mt_startswith
theorem w_starts {a b : Str} {H : Hp} {Q : VK} (q : Q (.bl (Txt.startswith a b)) H) : rStartsQ (.str a) [.str b] H Q := ⟨a, b, rfl, rfl, q⟩
def rTIxQ (K : PySem.W.Frag) : V → List V → Hp → VK → Prop := fun x xs H Q => ∃ p, ∃ ys : List Str, ∃ z j, x = .ref p ∧ xs = [.str z] ∧ SqT K H p (ys.map V.str) ∧ ys[j]? = some z ∧ (∀ m, m < j → ys[m]? ≠ some z) ∧ Q (.int (j : Nat)) H
theorem mt_tupIxQ {X : Cx} : MtR X "tuple.index" (rTIxQ X.K) := mt_tup_index
theorem w_tix {K : PySem.W.Frag} {O : Addr} {ys : List Str} {z : Str} {j : Nat} {H : Hp} {Q : VK} (h : SqT K H O (ys.map V.str)) (h1 : ys[j]? = some z) (h2 : ∀ m, m < j → ys[m]? ≠ some z) (q : Q (.int (j : Nat)) H) : rTIxQ K (.ref O) [.str z] H Q := ⟨O, ys, z, j, rfl, rfl, h, h1, h2, q⟩
theorem w_aug {te : TE} {ti : TIp} {D : Ends} {σ : L2.St} {H : Hp} {i : Nat} {x : V} (h : σ[i]? = some (some x)) (q : te σ H fun y H1 => ti x y H1 fun z H2 => D.nx (σ.set i (some z)) H2) : tAug i te ti D σ H := ⟨x, h, q⟩
theorem w_ipI {f : Int → Int → Int} {i j : Int} {H : Hp} {Q : VK} (q : Q (.int (f i j)) H) : ipI f (.int i) (.int j) H Q := ⟨i, j, rfl, rfl, q⟩
theorem w_lenTs {K : PySem.W.Frag} {p : Addr} {xs : List V} {H : Hp} {Q : VK} (h : SqT K H p xs) (q : Q (.int (xs.length : Int)) H) : rLenQ K [.ref p] H Q := ⟨p, xs, rfl, .inr h, q⟩
theorem w_stR {K : PySem.W.Frag} {p : Addr} {xs : List V} {H : Hp} {B : List V → Prop} (h : H p = some (.lst xs)) (q : B xs) : ∃ p' xs', V.ref p = .ref p' ∧ (SqT K H p' xs' ∨ SqL K H p' xs') ∧ B xs' := ⟨p, xs, rfl, .inr (.of h), q⟩
theorem eqV_str {a b : Str} : eqV (.str a) (.str b) = (a == b) := rfl
theorem w_lix {K : PySem.W.Frag} {p : Addr} {ys : List Str} {z : Str} {j : Nat} {H : Hp} {Q : VK} (h : H p = some (.lst (ys.map V.str))) (h1 : ys[j]? = some z) (h2 : ∀ m, m < j → ys[m]? ≠ some z) (q : Q (.int (j : Nat)) H) : rIndex K (.ref p) [.str z] H Q := by
  refine ⟨p, ys.map V.str, .str z, j, .str z, rfl, rfl, .of h, rfl, ?_, ?_, ?_, fun m y hm hy => ?_, q⟩
  · rw [List.all_eq_true]
    intro v hv
    obtain ⟨s, _, rfl⟩ := List.mem_map.mp hv
    rfl
  · rw [List.getElem?_map, h1]; rfl
  · rw [eqV_str]; exact beq_self_eq_true z
  · rw [List.getElem?_map] at hy
    cases e : ys[m]? with
    | none => rw [e] at hy; cases hy
    | some s =>
      rw [e] at hy
      cases hy
      rw [eqV_str]
      exact beq_eq_false_iff_ne.mpr fun z' => h2 m hm (by rw [e, z'])
theorem _root_.L2.Same.sqT {K : PySem.W.Frag} {H H' : Hp} {a : Addr} {xs : List V} (e : Same H H') (h : SqT K H a xs) : SqT K H' a xs := by
  rcases h with (h | ⟨o, h⟩) | h
  · exact .inl (.inl (e _ _ h))
  · exact .inl (.inr ⟨o, e _ _ h⟩)
  · exact .inr h
theorem w_lenTn {K : PySem.W.Frag} {p : Addr} {xs : List V} {H : Hp} {Q : VK} (n : Nat) (h : SqT K H p xs) (e : xs.length = n) (q : Q (.int (n : Int)) H) : rLenQ K [.ref p] H Q := ⟨p, xs, rfl, .inr h, by rw [e]; exact q⟩
theorem w_bm {K : PySem.W.Frag} {T : String} {r : V → List V → Hp → VK → Prop} {to : TE} {t : TA} {σ : L2.St} {H : Hp} {Q : VK} (q : to σ H fun x H1 => tyV K T x H1 ∧ t σ H1 fun xs H2 => r x xs H2 Q) : tBM K T r to t σ H Q := q
theorem w_tyL {K : PySem.W.Frag} {p : Addr} {xs : List V} {H : Hp} {B : Prop} (h : H p = some (.lst xs)) (q : B) : tyV K "list" (.ref p) H ∧ B := ⟨.inl ⟨rfl, xs, .inl (.inl h)⟩, q⟩
theorem w_append {p : Addr} {xs : List V} {y : V} {H : Hp} {Q : VK} (h : H p = some (.lst xs)) (hl : xs.length < sizeLine) (q : ∀ H', H' p = some (.lst (xs ++ [y])) → But p H H' → Q .non H') : rAppend (.ref p) [y] H Q := ⟨p, xs, y, rfl, rfl, h, hl, q _ upd_same But.set⟩
def rListQ (K : PySem.W.Frag) : List V → Hp → VK → Prop := fun xs H Q => ∃ p ys, xs = [.ref p] ∧ (SqL K H p ys ∨ SqT K H p ys) ∧ ∀ l, H l = none → Q (.ref l) (upd H l (.lst ys))
theorem call_listQ {X : Cx} : CallR X (.type "list") (rListQ X.K) := call_list_of
theorem w_listT {K : PySem.W.Frag} {p : Addr} {ys : List V} {H : Hp} {Q : VK} (h : SqT K H p ys) (q : ∀ l H', H l = none → Same H H' → H' l = some (.lst ys) → Q (.ref l) H') : rListQ K [.ref p] H Q := ⟨p, ys, rfl, .inr h, fun l nl => q l _ nl (Same.new nl) upd_same⟩
theorem w_listL {K : PySem.W.Frag} {p : Addr} {ys : List V} {H : Hp} {Q : VK} (h : SqL K H p ys) (q : ∀ l H', H l = none → Same H H' → H' l = some (.lst ys) → Q (.ref l) H') : rListQ K [.ref p] H Q := ⟨p, ys, rfl, .inl h, fun l nl => q l _ nl (Same.new nl) upd_same⟩
def rTupQ (K : PySem.W.Frag) : List V → Hp → VK → Prop := fun xs H Q => ∃ p ys, xs = [.ref p] ∧ ((SqL K H p ys ∧ ∀ l, H l = none → Q (.ref l) (upd H l (.tup ys))) ∨ (SqT K H p ys ∧ Q (.ref p) H))
theorem call_tupQ {X : Cx} : CallR X (.type "tuple") (rTupQ X.K) := call_tuple_of
theorem w_tupL {K : PySem.W.Frag} {p : Addr} {ys : List V} {H : Hp} {Q : VK} (h : SqL K H p ys) (q : ∀ l H', H l = none → Same H H' → H' l = some (.tup ys) → Q (.ref l) H') : rTupQ K [.ref p] H Q := ⟨p, ys, rfl, .inl ⟨h, fun l nl => q l _ nl (Same.new nl) upd_same⟩⟩
theorem w_sortedSet {w : World} {a : Addr} {S : Int → Bool} {n : Nat} {H : Hp} {Q : VK} (h : H a = some (SetO w a S n)) (hn : n < 64) (q : ∀ (ns : List Int) (p : Addr) H', ns.Pairwise (· < ·) → (∀ k : Int, k ∈ ns ↔ S k = true) → ns.length = n → H p = none → Same H H' → H' p = some (.lst (ns.map V.int)) → Q (.ref p) H') : rSortedSet w [.ref a] H Q :=
  ⟨a, S, n, rfl, h, hn, fun ns p h1 h2 h3 np => q ns p _ h1 h2 h3 np (Same.new np) upd_same⟩
theorem w_star {K : PySem.W.Frag} {te : TE} {t : TA} {σ : L2.St} {H : Hp} {Q : List V → Hp → Prop} (q : te σ H fun x H1 => ∃ p xs, x = V.ref p ∧ (SqT K H1 p xs ∨ SqL K H1 p xs) ∧ t σ H1 fun ys H2 => Q (xs ++ ys) H2) : StX.tStar K te t σ H Q := q
theorem w_inSg {c : Nat} {z : Str} {H : Hp} {Q : VK} (q : Q (.bl (decide (c ∈ z.cps.toList))) H) : Evl0.rInSQ (.str ⟨#[c]⟩) (.str z) H Q := ⟨c, z, rfl, rfl, q⟩
theorem w_eqD {K : PySem.W.Frag} {x y : V} {d : PyData} {H : Hp} {Q : VK} (h1 : Dp K H x d) (h2 : Dp K H y d) (hs : SeqAt.shaped d = true) (q : Q (.bl true) H) : rEqD K x y H Q := ⟨d, d, h1, h2, hs, hs, by rw [SeqAt.eqv_refl _ (SeqAt.canLay_of_shaped hs)]; exact q⟩
theorem w_neD {K : PySem.W.Frag} {x y : V} {d : PyData} {H : Hp} {Q : VK} (h1 : Dp K H x d) (h2 : Dp K H y d) (hs : SeqAt.shaped d = true) (q : Q (.bl false) H) : rNeD K x y H Q := ⟨d, d, h1, h2, hs, hs, by rw [SeqAt.eqv_refl _ (SeqAt.canLay_of_shaped hs)]; exact q⟩
end Co

set_option Elab.async false
set_option linter.all false
set_option maxRecDepth 100000
set_option maxHeartbeats 4000000
namespace Co
open PySem PySem.Spec PyProof.Rows L2
open AutoSeq1 (wpAny_loadPart')
/-! ### enumerate of a tuple -/
abbrev tupIt (t : Addr) : Obj := { cls := .type "tuple_iterator", data := .fields #[.ref t, .int 0 0] }
abbrev enumOb (it : Addr) : Obj := { cls := .type "enumerate", data := .fields #[.none, .bool false, .ref it, rawInt 0, .none, .none] }
theorem iter_tup {prog : Program} {w : World} {A : Around} {E : Value → Shared → Prop} {s : Shared} {t : Addr} {items : Array Value} {Q : Value → Shared → Prop} (h : s.heap.IsTuple t items) (q : Q (.ref s.heap.objs.size) { s with heap := s.heap.push (tupIt t) }) : wpAny (model prog w) A (pyIter (.ref t)) Q E s :=
  (begins_tuple t items).iter prog w A E s Q h q
theorem meets_enumT (t : Addr) (o : Obj) (items : Array Value) (ho : o.cls = .type "tuple") :
    Meets (Builtin.«enumerate.__new__» ⟨[.type "enumerate", .ref t], []⟩) (fun _ R s => (s.heap.get? t = some o ∧ s.heap.IsTuple t items) ∧
      R (.ok (.ret (.ref (s.heap.push (tupIt t)).objs.size))) { s with heap := (s.heap.push (tupIt t)).push (enumOb s.heap.objs.size) }) :=
  .of_wp fun prog w A R s h => by
    obtain ⟨hp, g, d, tk, os⟩ := s; obtain ⟨⟨hl, hT⟩, h⟩ := h
    obtain ⟨c, dct, dt, sl⟩ := o
    replace ho : c = .type "tuple" := ho
    subst ho
    have hsub := sub_enumerate
    wp_walk using wpAny_loadPart' hl
    refine wpAny_stack_any fun st => wpAny_pure ?_
    split
    · rename_i c _ _ _ _ _
      cases (c == Value.type "enumerate")
      · wp_walk using wpAny_loadPart' hl, iter_tup hT
        exact ⟨_, rfl, h⟩
      · wp_walk using wpAny_loadPart' hl, iter_tup hT
        exact ⟨_, rfl, h⟩
    · wp_walk using wpAny_loadPart' hl, iter_tup hT
      exact ⟨_, rfl, h⟩
theorem call_enumT {prog : Program} {w : World} {A : Around} {E : Value → Shared → Prop} {s : Shared} {t : Addr} {items : Array Value} {Q : Value → Shared → Prop} (hT : s.heap.IsTuple t items)
    (q : ∀ h', IsEnum h' (s.heap.objs.size + 1) s.heap.objs.size 0 .none → h'.IsTupleIter s.heap.objs.size t 0 → (∀ b o, s.heap.get? b = some o → h'.get? b = some o) → Q (.ref (s.heap.objs.size + 1)) { s with heap := h' }) :
    wpAny (model prog w) A (call (.type "enumerate") [.ref t]) Q E s := by
  obtain ⟨o, ho, hc, hd⟩ := id hT
  refine callType_new F.called_enumerate (by decide) (F.typeCall_enumerate_1 _) (F.newCall_enumerate_1 _) (fun obj => F.args_object_init_2 obj _) F.entry_enumerate_new (meets_enumT t o items hc) ⟨⟨ho, hT⟩, ?_⟩
  have hz : (s.heap.push (tupIt t)).objs.size = s.heap.objs.size + 1 := Heap.size_push ..
  have he : IsEnum ((s.heap.push (tupIt t)).push (enumOb s.heap.objs.size)) (s.heap.objs.size + 1) s.heap.objs.size 0 .none := by
    have z := Heap.get?_push_size (s.heap.push (tupIt t)) (o := enumOb s.heap.objs.size) rfl
    rw [hz] at z; exact z
  show _ ∧ _
  rw [hz]
  exact ⟨⟨_, he, rfl⟩, q _ he ⟨_, Heap.get?_push_of_some _ (Heap.get?_push_size _ rfl), rfl, rfl⟩ fun b o x => Heap.get?_push_of_some _ (Heap.get?_push_of_some _ x)⟩
def IteT (K : PySem.W.Frag) (a : Addr) : It :=
  ⟨fun i H => ∃ xs x, SqT K H a xs ∧ xs[i]? = some x,
    fun i H v H' => ∃ T x, v = .ref T ∧ H T = none ∧ H' = upd H T (.tup [.int (i : Nat), x]) ∧ ∀ xs, SqT K H a xs → xs[i]? = some x,
    fun i H => ∃ xs, SqT K H a xs ∧ xs.length = i⟩
/-- the two objects of such an enumerate, as they stand before its turn `i` -/
structure EAt (a e it : Addr) (i : Nat) (h : Heap) : Prop where
  num : ∃ old, IsEnum h e it ((i : Nat) : Int) old
  tup : h.IsTupleIter it a i
theorem all2 {p : Addr → Prop} {a b : Addr} (ha : p a) (hb : p b) : ∀ y, y ∈ [a, b] → p y := by simpa using ⟨ha, hb⟩
theorem EAt.small {a e it : Addr} {i : Nat} {h : Heap} (q : EAt a e it i h) : ∀ c, c ∈ [e, it] → c < h.objs.size := by
  obtain ⟨_, q1⟩ := q.num
  obtain ⟨_, q2, _⟩ := q.tup
  exact all2 (Heap.lt_size q1) (Heap.lt_size q2)
theorem turn_enumT {P : Program} {w : World} {K : PySem.W.Frag} {elts : List Expr} {kk : Nat} {tpos : Pos} (a e it : Addr) (na : a ≠ it) (ne : e ≠ it) (nea : e ≠ a) :
    Turn P w K (.Tuple elts kk tpos) (IteT K a) [e, it] e (EAt a e it) where
  mem := List.mem_cons_self
  obj := fun i h q => by
    obtain ⟨_, q1⟩ := q.num
    obtain ⟨_, q2, _, d2⟩ := q.tup
    refine all2 ⟨_, q1, ?_⟩ ⟨_, q2, ?_⟩ <;> intro v z <;> simp_all
  keep := fun i h h' q k => by
    obtain ⟨old, q1⟩ := q.num
    exact ⟨⟨old, k e (by simp) _ q1⟩, q.tup.at (k it (by simp))⟩
  item := by
    rintro X rfl rfl rfl hc i pins s σ H E I hf q ⟨xs, x, hy, hx⟩
    obtain ⟨vs, rv, tv, _⟩ := I.tuple hy
    obtain ⟨old, q1⟩ := q.num
    have sm := q.small
    have hd : X.A.in1.handled = none := I.ok.hd hc
    obtain ⟨u, hu, ru'⟩ := rv.get hx
    have lv : i < vs.toArray.size := by
      have := (List.getElem?_eq_some_iff.mp hu).1
      simpa using this
    refine wpAny_pyNext_enum_itemD (Draws.tuple hd it a na vs.toArray) q1 ⟨q.tup, tv⟩ lv ne (by simpa using ⟨ne, nea⟩) fun y h1 t1 Py o1 f1 new _ kp => ?_
    obtain rfl : u = y := by
      have : vs[i]? = some y := by simpa using Py
      simpa [hu] using this
    refine ⟨_, rfl, wpAny_letOwnedTupleGo_enum (s := { s with heap := h1, toks := t1 + 1 }) o1 fun h2 o2 sb => ?_⟩
    have nt : h2.get? s.heap.objs.size = some { cls := .type "tuple", data := .seq #[.int i t1, u] } :=
      (sb.2 _ (Nat.ne_of_gt (sm e (by simp)))).trans new
    have pair : ObjOk X.prog X.w (upd H s.heap.objs.size (.tup [.int (i : Nat), x])) h2 s.heap.objs.size (.tup [.int (i : Nat), x]) :=
      ⟨(by decide : 2 ≤ sizeLine), [.int i t1, u], .cons ⟨_, rfl⟩ (.cons ru' .nil), ⟨_, nt, rfl, _, rfl⟩⟩
    have kp2 : ∀ c o, c ∉ [e, it] → s.heap.get? c = some o → h2.get? c = some o := fun c o nc z => by
      have nn : c ≠ e ∧ c ≠ it := by simpa [not_or] using nc
      exact (sb.2 c nn.1).trans (kp c o nn.1 nn.2 z)
    have J : L2.Inv X pins σ (upd H s.heap.objs.size (.tup [.int (i : Nat), x])) { s with heap := h2, toks := t1 + 1 } :=
      I.turnedNew (t' := t1 + 1) (ch := [e, it]) kp2 hf (Nat.le_refl _) pair
    refine ⟨.ref s.heap.objs.size, _, J, rfl, ⟨_, x, rfl, I.hok.fresh (Nat.le_refl _), rfl, fun l hl => by obtain rfl := I.tuple_inj hl hy; exact hx⟩, ⟨⟨u, by simpa using o2⟩, f1.1.at fun o z => (sb.2 it ne.symm).trans z⟩, fun c hc => (upd_ne (Nat.ne_of_lt (sm c hc))).trans (hf c hc).1⟩
  done := by
    rintro X rfl rfl rfl hc i pins s σ H E I hf q ⟨xs, hy, hx⟩
    obtain ⟨vs, rv, tv, _⟩ := I.tuple hy
    obtain ⟨old, q1⟩ := q.num
    have lv : vs.toArray.size = i := by simpa [hx] using rv.length.symm
    have hd : X.A.in1.handled = none := I.ok.hd hc
    obtain ⟨r0, r1, _, r3, r4, r5⟩ := hf it (by simp)
    exact wpAny_pyNext_enum_endD (Draws.tuple hd it a na vs.toArray) q1 ⟨by rw [lv]; exact q.tup, tv⟩ fun h' eb => ⟨rfl, I.turned (t' := s.toks) (fun b o hb z => eb b o hb z) r0 r1 r3 r4 r5⟩
  self := fun _ _ _ _ _ q h => by obtain ⟨_, q1⟩ := q.num; exact wpAny_pyIter_enum q1 h
def iEnumT (K : PySem.W.Frag) (ta : TA) : TI := fun σ H R => ta σ H fun vs H1 => ∃ a xs, vs = [.ref a] ∧ SqT K H1 a xs ∧ R (IteT K a) H1
theorem pi_enumT {X : Cx} {e : Expr} {ta : TA} {p pos tpos : Pos} {elts : List Expr} {kk : Nat} (hg : Gl X "enumerate") (hm : X.mg "enumerate" = none) (ha : PA X [e] ta) (hs : starEach [e] X.env = [(false, eval e X.env)] := by rfl) :
    PI X (.Tuple elts kk tpos) (.Call (.Name "enumerate" p) [e] [] pos) (iEnumT X.K ta) where
  run pins s σ H R I h := by
    have go := ha.run pos pins s σ H _ I h
    refine Call_ (ld_blt I hg hm boot_enumerate (PyProof.Rows.callWith_type1 (thn go ?_) hs rfl))
    rintro us s1 ⟨vs, H1, J, r1, a, xs, rfl, hy, q⟩
    match us, r1 with
    | [_], .cons rfl .nil =>
      obtain ⟨its, _, tv, _⟩ := J.tuple hy
      obtain ⟨_, ha, _⟩ := id tv
      have la := Heap.lt_size ha
      let n := s1.heap.objs.size
      have up : ∀ c, c ∈ [n + 1, n] → n ≤ c := all2 (by omega) (by omega)
      refine call_enumT (show s1.heap.IsTuple a its.toArray from tv) fun h' q1 q2 kp => wpAny_pyIter_enum q1 ?_
      exact ⟨n + 1, [n + 1, n], _, _, H1, rfl, J.kept (t' := s1.toks) kp, turn_enumT a (n + 1) n (Nat.ne_of_lt la) (Nat.succ_ne_self n) (Nat.ne_of_gt (Nat.lt_succ_of_lt la)), ⟨⟨.none, q1⟩, q2⟩, fun c hc => J.fpOk (up c hc) (J.hok.fresh (up c hc)), q⟩
def kEnT (K : PySem.W.Frag) (R : It → Hp → Prop) : List V → Hp → Prop := fun vs H1 => ∃ a xs, vs = [.ref a] ∧ SqT K H1 a xs ∧ R (IteT K a) H1
theorem w_iEnT {K : PySem.W.Frag} {ta : TA} {σ : L2.St} {H : Hp} {R : It → Hp → Prop} (q : ta σ H (kEnT K R)) : iEnumT K ta σ H R := q
theorem w_forE {K : PySem.W.Frag} {g : TG} {tb : TS} {D : Ends} {σ : L2.St} {H : Hp} {a : Addr} (xs : List V) (Pv : Nat → L2.St → Hp → Prop) (hq : SqT K H a xs) (h0 : Pv 0 σ H) (hl : ∀ i σ H, Pv i σ H → SqT K H a xs)
    (hs : ∀ i x σ H t H1, xs[i]? = some x → Pv i σ H → H t = none → Same H H1 → H1 t = some (.tup [.int (i : Nat), x]) → g (.ref t) σ H1 fun σ2 H2 => tb { D with nx := Pv (i + 1), ct := Pv (i + 1), bk := D.nx } σ2 H2)
    (hd : ∀ σ H, Pv xs.length σ H → D.nx σ H) : kEnT K (kFor g tb D σ) [.ref a] H := by
  refine ⟨a, xs, rfl, hq, fun i m σ H => m = xs.length - i ∧ i ≤ xs.length ∧ Pv i σ H, ⟨xs.length, by simp, Nat.zero_le _, h0⟩, ?_⟩
  rintro i m σ H ⟨rfl, hi, p⟩
  have q := hl i σ H p
  by_cases hlt : i < xs.length
  · refine .inr ⟨⟨xs, xs[i], q, List.getElem?_eq_getElem hlt⟩, Pv (i + 1), fun σ' H' p' => ⟨xs.length - (i + 1), by omega, rfl, hlt, p'⟩, fun v H' y => ?_⟩
    obtain ⟨T, y, rfl, nT, rfl, hy⟩ := y
    exact hs i y σ H T _ (hy xs q) p nT (Same.new nT) upd_same
  · have e : i = xs.length := by omega
    subst e
    exact .inl ⟨⟨xs, q, rfl⟩, hd σ H p⟩
theorem w_catG {K : PySem.W.Frag} {a b : Addr} {xs ys : List V} {H : Hp} {Q : VK} (h1 : SqT K H a xs) (h2 : SqT K H b ys) (hl : xs.length + ys.length ≤ sizeLine) (q : ∀ p H', Same H H' → SqT K H' p (xs ++ ys) → Q (.ref p) H') : rCatA K (.ref a) (.ref b) H Q :=
  ⟨a, b, xs, ys, rfl, rfl, h1, h2, hl, fun e => q b H (fun _ _ e => e) (by rw [e]; exact h2), fun _ e => q a H (fun _ _ e => e) (by rw [e, List.append_nil]; exact h1), fun _ _ p np => q p _ (Same.new np) (.inl (.inl upd_same))⟩
theorem w_slG {K : PySem.W.Frag} {a : Addr} {xs : List V} {lo hi : Option Int} {H : Hp} {Q : VK} (h : SqT K H a xs) (q : ∀ p H', Same H H' → SqT K H' p (cutV xs lo hi) → Q (.ref p) H') : rSlA K (.ref a) lo hi H Q :=
  ⟨a, xs, rfl, h, fun ⟨e1, e2⟩ => q a H (fun _ _ e => e) (by unfold cutV; rw [e1, e2]; simpa using h), fun _ p np => q p _ (Same.new np) (.inl (.inl upd_same))⟩
end Co

set_option Elab.async false
set_option linter.all false
set_option maxRecDepth 100000
set_option maxHeartbeats 4000000
namespace Co
open PySem PySem.Spec PyProof.Rows L2
/-! ### repr of data at any depth, where nothing is being shown -/
/-- d may be shown: no dict, small ints and letters -/
structure Shw (d : PyData) : Prop where
  show_ : d.showable = true
  dict_ : d.hasDict = false
  deep : d.depth ≤ 64
  len : d.shown.length ≤ sizeLine
def rRepr (K : PySem.W.Frag) : List V → Hp → VK → Prop := fun xs H Q => ∃ a d, xs = [.ref a] ∧ Dp K H (.ref a) d ∧ Shw d ∧ Q (.str d.shown) H
theorem call_reprD {X : Cx} (hg : X.A.guards = some []) (hu : X.A.units + 70 < cLine) : CallR X (.builtin "repr") (rRepr X.K) := by
  intro pins s σ H xs us Q I r h
  obtain ⟨a, d, rfl, hd, S, q⟩ := h
  obtain ⟨u, rfl, rx⟩ := vals1 r
  cases rx
  obtain ⟨as, rd⟩ := Dp.reads I d _ _ hd rfl
  refine repr_of_reads' rd S.show_ (fun z => absurd (S.dict_.symm.trans z) (by decide)) hg (by have := S.deep; omega) (fun b o e => e) (fun h' u tk hk => ⟨.str d.shown, H, I.kept (t' := tk) hk, ⟨u, rfl⟩, q⟩) S.len
theorem w_repr {K : PySem.W.Frag} {a : Addr} {d : PyData} {H : Hp} {Q : VK} (h : Dp K H (.ref a) d) (hs : Shw d) (q : Q (.str d.shown) H) : rRepr K [.ref a] H Q := ⟨a, d, rfl, h, hs, q⟩
/-! ### the law's own run: nothing stands below it -/
def RunG (P : Program) (w : World) (K : PySem.W.Frag) (mg : Str → Option Value) (base : Heap) (f : Addr) (fd : FuncData) (x : Str) (sp : Sp) : Prop :=
  ∀ (s : Shared) (H : Hp) (args : Args) (us : List Value) (vs : List V) (Q : VK), Env0 P w K mg base callerA [] s H → BindsTo s fd args ([x].zip us) → Vals vs us → vs.length = 1 → sp vs H Q E0 → codeAny (model P w) callerA (.call (.ref f) args) (CR CX0 [] P w H s Q E0) s
theorem guards_callerA (env : Env) : (callerA.deeper env).guards = some [] := rfl
theorem runG_of {P : Program} {w : World} {K : PySem.W.Frag} {mg : Str → Option Value} {base : Heap} {x qual par : Str} {st : Stmt} {f : Addr} {fd : FuncData} {N : List Str} {k : Nat} {sp : Sp} (F : Fun K x qual st f fd) (S : FnScope N [par] (defScope st)) (hr : Room (k + 1) callerA)
    (hbody : ∀ (cdv : Value) (s : Shared) (H : Hp) (vs : List V) (Q : VK), Room k (callerA.deeper (envOfC qual (defScope st) s.heap.objs.size f cdv)) → sp vs H Q E0 →
      ∃ t, PSs (cxOf CX0 P w K mg base N qual (defScope st) f cdv callerA [] s H E0).nox (defBody st) t ∧ t { nx := fun _ H' => Q .non H', rt := Q } (start N vs) H) : RunG P w K mg base f fd par sp := by
  obtain ⟨oc, od, kV, doc, pm, an, cdv, ct, osl, rfl, lk, hcd⟩ := F.ex
  intro s H args us vs Q e0 hb r hl hsp
  have keep : ∀ b o, base.get? b = some o → s.heap.get? b = some o := fun b o e => (e0.bs b o e).1
  have KX := e0.mod.kin.keeps keep
  have slots : ∀ y ∈ [par].zip us, (defScope st).names.lookup y.1 = some .local ∨ ((defScope st).names.lookup y.1 = some .cell ∧ ((cellsFrom (s.heap.objs.size + 1) (defScope st).names []).lookup y.1).isSome = true) := by
    rintro ⟨n, v⟩ hy
    have m := S.par n (List.of_mem_zip hy).1
    exact m.imp id fun q => ⟨q, PySem.W.cellsFrom_some _ _ _ (.inl q)⟩
  refine codeAny_call_function hr.depth (KX _ _ lk) rfl S.co S.gen rfl (PySem.W.codeRec_of KX hcd) (hb _ _ _ _ (wpAny_newFunctionEnv_cells S.kind slots fun env he s1 inC => ?_))
  cases he
  obtain ⟨t, ht, hq⟩ := hbody cdv s H vs Q (hr.deeper _) hsp
  have I := inv_start (CX := CX0) (E := E0) (cd := cdv) (qual := qual) S hr.hd e0 hl r inC
  refine ⟨(e0.mod.nolimit.keeps keep).keeps inC.toInCall.keep, codeAny_func (wpAny_mono (ht.nox.run [] s1 (start N vs) H _ I hq) (fun fl s' hs => ?_) fun e s' hs => hs)⟩
  match fl, hs with
  | .ret u, ⟨v, σ', H', J, rv, q⟩ => exact ⟨v, H', J.os, J.bare, J.base, J.hok, rv, q⟩
  | .next, ⟨σ', H', J, q⟩ => exact ⟨V.non, H', J.os, J.bare, J.base, J.hok, rfl, q⟩
  | .brk, ⟨_, _, _, q⟩ => exact False.elim q
  | .cont, ⟨_, _, _, q⟩ => exact False.elim q
/-- how the law's call ends -/
def Ended (s1 : Shared) : Result → Shared → Prop := fun r s' => r = .ok (.ret (.bool true)) ∧ OldK s1.heap s'.heap ∧ s'.os = s1.os ∧ AllBare s'.gens
section
variable {P : Program} {w : World} {K : PySem.W.Frag} {mg mb : Str → Option Value} {fa a : Addr} {fd : FuncData} {x : Str} {sp : Sp} {s1 : Shared} {vs : List Value} {ns : List Int}
/-- from a heap that tracks the script at most -/
theorem call_from (KX : K.In s1.heap) (hns : s1.heap.Ns mainGlobals mg) (hb : s1.heap.Ns builtinsNs mb) (hbb : ∀ y : Str, y ≠ "__name__" → mb y = bootBuiltins y) (hlim : s1.heap.NoLimit) (hg : s1.gens = #[])
    (ha : ∃ xs n, (s1.heap.get? a).map (·.data) = some (.seq xs n)) (F : ∀ base : Heap, K.In base → base.Ns mainGlobals mg → RunG P w K mg base fa fd x sp) (hbind : ∀ (s : Shared) (u : Value), BindsTo s fd ⟨[u], []⟩ [(x, u)])
    {H : Hp} (hO : Only H) (hok : HOk P w H s1.heap) (hA : ∀ b, b ≠ a → H b = none) (hK : H a = none ∨ K.lookup a = none) (hsp : sp [.ref a] H (fun v _ => v = .bl true) E0) :
    codeAny (model P w) callerA (.call (.ref fa) ⟨[.ref a], []⟩) (Ended s1) s1 := by
  have out : ∀ {b : Addr} {o : Obj} {es : Array DictEntry} {ep : Nat}, s1.heap.get? b = some o → o.data = .dict es ep → H b = none := by
    intro b o es ep e d
    by_cases z : b = a
    · subst z
      obtain ⟨xs, n, q⟩ := ha
      rw [e, Option.map_some, d] at q
      cases q
    · exact hA b z
  have nsT : ∀ {b : Addr} {m : Str → Option Value}, s1.heap.Ns b m → (hidT s1.heap H).Ns b m := by
    rintro b m ⟨o, es, ep, e, d, r⟩
    exact ⟨o, es, ep, hidT_get e (out e d), d, r⟩
  have KT : K.In (hidT s1.heap H) := by
    intro b o e
    refine hidT_get (KX b o e) ?_
    by_cases z : b = a
    · subst z
      exact hK.resolve_right fun q => by rw [q] at e; cases e
    · exact hA b z
  obtain ⟨mc, l1, l2⟩ := hlim
  have M : Mod K mg (hidT s1.heap H) := ⟨KT, nsT hns, ⟨mb, nsT hb, hbb⟩, mc, nsT l1, l2⟩
  have e0 : Env0 P w K mg (hidT s1.heap H) callerA [] s1 H := { frames := rfl, mod := M, bs := fun b o e => of_hidT e, bsz := Nat.le_of_eq (hidT_size _ _), funs := trivial, frf := fun b z => absurd (show b ∈ ([] : List Addr) from z) (by simp), hok := hok, bare := .of_eq hg }
  refine codeAny_mono (F _ KT (nsT hns) s1 H _ [.ref a] [.ref a] _ e0 (hbind s1 _) (.cons rfl .nil) rfl hsp) ?_
  rintro (e | fl) s' h
  · exact h.elim
  · match fl, h with
    | .ret u, ⟨v, H', os, bare, un, hok', r', q⟩ =>
      cases (show v = .bl true from q)
      cases (show u = Value.bool true from r')
      refine ⟨rfl, OldK.of_keep fun b o e => ?_, os, bare⟩
      rcases hO b with z | ⟨ob, xs, z⟩
      · exact un.keep b o e z (fun m => nomatch m) (fun m => nomatch m)
      · have e1 := (hok b _ z).1
        have e2 := (hok' b _ (un.frzs b ob _ z)).1
        cases e.symm.trans e1
        exact e2
theorem law_callG (KX : K.In s1.heap) (hns : s1.heap.Ns mainGlobals mg) (hb : s1.heap.Ns builtinsNs mb) (hbb : ∀ y : Str, y ≠ "__name__" → mb y = bootBuiltins y) (hlim : s1.heap.NoLimit) (hg : s1.gens = #[])
    (ha : s1.heap.get? a = some { cls := .type "list", data := .seq vs.toArray }) (hi : IntsAre vs ns) (hl : ns.length ≤ sizeLine) (F : ∀ base : Heap, K.In base → base.Ns mainGlobals mg → RunG P w K mg base fa fd x sp) (hbind : ∀ (s : Shared) (u : Value), BindsTo s fd ⟨[u], []⟩ [(x, u)])
    (hsp : ∀ H : Hp, Only H → SqL K H a (ns.map V.int) → sp [.ref a] H (fun v _ => v = .bl true) E0) : codeAny (model P w) callerA (.call (.ref fa) ⟨[.ref a], []⟩) (Ended s1) s1 := by
  have rv := vals_ints hi
  have hl' : vs.toArray.size ≤ sizeLine := by rw [List.size_toArray, hi.length]; exact hl
  have haq : ∃ xs n, (s1.heap.get? a).map (·.data) = some (.seq xs n) := ⟨_, _, by rw [ha]; rfl⟩
  cases hk : K.lookup a with
  | some o =>
    have e := (KX a o hk).symm.trans ha
    cases e
    have O : Only fun _ => none := fun _ => .inl rfl
    exact call_from KX hns hb hbb hlim hg haq F hbind O (fun b u z => by cases z) (fun _ _ => rfl) (.inl rfl) (hsp _ O (.inr ⟨_, vs.toArray, _, hk, rfl, rfl, rfl, hl', by simpa using rv⟩))
  | none =>
    let fz : HO := .frz { cls := .type "list", data := .seq vs.toArray } (.lst (ns.map V.int))
    have at_a : ∀ {b : Addr} {u : HO}, (if b = a then some fz else none) = some u → b = a ∧ u = fz := by
      intro b u z
      by_cases q : b = a
      · rw [if_pos q] at z; exact ⟨q, (Option.some.inj z).symm⟩
      · rw [if_neg q] at z; cases z
    have O : Only fun b => if b = a then some fz else none := fun b => by
      by_cases q : b = a
      · exact .inr ⟨_, _, if_pos q⟩
      · exact .inl (if_neg q)
    refine call_from KX hns hb hbb hlim hg haq F hbind O (fun b u z => ?_) (fun b q => if_neg q) (.inr hk) (hsp _ O (.inl (.inr ⟨_, if_pos rfl⟩)))
    obtain ⟨rfl, rfl⟩ := at_a z
    exact ⟨ha, by rw [List.length_map]; exact hl, vs, _, rv, ha⟩
end
/-- the goal that k_head leaves, from the law's run -/
theorem walk_ofG {l : PySem.W.OpenLaw} {n : Nat} {q : Program} {loose : List Str} {XP : (Str → Option Value) → Heap → Prop} {YP : World → Heap → Prop} {d : DefRec} {K : Params → PySem.W.Frag} {sp : World → Sp} {x : Str}
    (hn : l.most = some n) (hn2 : n ≤ sizeLine) (hdf : d.params.defaults = []) (hY : ∀ (w : World) (h : Heap), YP w h → (K w.params).In h)
    (F : ∀ (w : World) (mg : Str → Option Value) (fa : Addr) (h : Heap), (K w.params).In h → h.Ns mainGlobals mg → mg d.name = some (.ref fa) →
      ∃ fd : FuncData, (∀ (s : Shared) (u : Value), BindsTo s fd ⟨[u], []⟩ [(x, u)]) ∧ ∀ base : Heap, (K w.params).In base → base.Ns mainGlobals mg → RunG l.prog w (K w.params) mg base fa fd x (sp w))
    (hsp : ∀ (w : World) (H : Hp) (a : Addr) (ns : List Int), ns.length ≤ n → Only H → SqL (K w.params) H a (ns.map V.int) → sp w [.ref a] H (fun v _ => v = .bl true) E0) :
    PySem.W.WalkO q loose XP YP l.row.toRowW d [] (fun f vs => PySem.call f vs) := by
  refine Att.attach_call hn hdf fun w _ s1 mg mb fa o pm cd doc a vs ns G Y _ _ _ hmg hobj hints hlen hg => ?_
  have KX := hY w _ Y
  obtain ⟨fd, hb, hF⟩ := F w mg fa _ KX G.T.g hmg
  exact law_callG KX G.T.g G.T.b G.T.builtins G.T.nolimit hg hobj hints (Nat.le_trans hlen hn2) hF hb fun H hO hS => hsp w H a ns hlen hO hS
end Co
namespace Co
open PySem PySem.Spec PyProof.Rows L2
section
variable {X : Cx} {K' : PySem.W.Frag}
theorem call_tupQK (hK : X.K = K') : CallR X (.type "tuple") (rTupQ K') := by subst hK; exact call_tupQ
theorem call_listQK (hK : X.K = K') : CallR X (.type "list") (rListQ K') := by subst hK; exact call_listQ
end
theorem hu70 {A : Around} {k : Nat} (hr : Room k A) : A.units + 70 < cLine := by have := hr.un; omega
end Co
namespace Co
open PySem PySem.Spec PyProof.Rows L2
/-! ### data of rows of ints -/
theorem lay_ints : ∀ xs : List Int, PyData.canLayAll0 (xs.map .int) = true ∧ PyData.depthAll (xs.map .int) = 0
  | [] => by simp [PyData.canLayAll0, PyData.depthAll]
  | x :: r => by
    have := lay_ints r
    simp [PyData.canLayAll0, PyData.depthAll, PyData.canLay0, PyData.depth, this.1, this.2]
theorem dpInts {K : PySem.W.Frag} {H : Hp} : ∀ xs : List Int, DpAll K H (xs.map V.int) (xs.map .int)
  | [] => .nil
  | x :: r => .cons (.int x) (dpInts r)
def rowD (bs : List Int) : PyData := .tuple (bs.map .int)
def rowsD (B : List (List Int)) : PyData := .tuple (B.map rowD)
theorem dpRow {K : PySem.W.Frag} {H : Hp} {a : Addr} {bs : List Int} (h : SqT K H a (bs.map V.int)) : Dp K H (.ref a) (rowD bs) := .tup h (dpInts bs)
theorem dpAllRows {K : PySem.W.Frag} {H : Hp} : ∀ (as : List V) (B : List (List Int)), as.length = B.length → (∀ (j : Nat) (v : V) (bs : List Int), as[j]? = some v → B[j]? = some bs → ∃ a, v = V.ref a ∧ SqT K H a (bs.map V.int)) → DpAll K H as (B.map rowD)
  | [], [], _, _ => .nil
  | [], _ :: _, e, _ => by cases e
  | _ :: _, [], e, _ => by cases e
  | v :: as, bs :: B, e, h => by
    obtain ⟨a, rfl, q⟩ := h 0 v bs rfl rfl
    exact .cons (dpRow q) (dpAllRows as B (Nat.succ.inj e) fun j v' bs' h1 h2 => h (j + 1) v' bs' h1 h2)
theorem lay_rows : ∀ B : List (List Int), PyData.canLayAll0 (B.map rowD) = true ∧ PyData.depthAll (B.map rowD) ≤ 1
  | [] => by simp [PyData.canLayAll0, PyData.depthAll]
  | x :: r => by
    obtain ⟨h1, h2⟩ := lay_rows r
    obtain ⟨l1, l2⟩ := lay_ints x
    constructor
    · simp only [List.map_cons, PyData.canLayAll0, rowD, PyData.canLay0, l1, Bool.true_and]
      exact h1
    · simp only [List.map_cons, PyData.depthAll, rowD, PyData.depth, l2]
      have : PyData.depthAll (List.map (fun bs => PyData.tuple (List.map PyData.int bs)) r) ≤ 1 := h2
      omega
theorem rows_shaped (B : List (List Int)) : SeqAt.shaped (rowsD B) = true := by
  have l := lay_rows B
  simp only [SeqAt.shaped, rowsD, PyData.canLay0, PyData.depth, l.1, Bool.true_and, decide_eq_true_eq]
  omega
end Co

set_option Elab.async false
set_option linter.all false
set_option maxRecDepth 100000
set_option maxHeartbeats 4000000
namespace Co
open PySem PySem.Spec PyProof.Rows L2
/-! ### data small enough to be shown and compared -/
structure SmD (n k : Nat) (d : PyData) : Prop where
  lay : d.canLay0 = true
  sh : d.intsShort 13 = true
  shw : d.showable = true
  w : d.weight + 1 ≤ n
  dp : d.depth ≤ k
structure SmAll (n k : Nat) (ds : List PyData) : Prop where
  lay : PyData.canLayAll0 ds = true
  sh : PyData.intsShortAll 13 ds = true
  shw : PyData.showableAll ds = true
  w : PyData.weightAll ds ≤ n
  dp : PyData.depthAll ds ≤ k
theorem SmD.shaped {n k : Nat} {d : PyData} (h : SmD n k d) (hk : k ≤ 64) : SeqAt.shaped d = true := by
  have := h.dp
  unfold SeqAt.shaped
  rw [h.lay, Bool.true_and, decide_eq_true_eq]
  omega
theorem SmD.shown {n k : Nat} {d : PyData} (h : SmD n k d) (hk : k ≤ 64) (hn : n ≤ 1048577) : Shw d := by
  have := h.dp
  have hw := h.w
  exact ⟨h.shw, PyData.hasDict_of_canLay d h.lay, by omega, PyData.shown_fits (B := 13) (by decide) (by decide) (PyData.leavesShort_of_canLay0 13 d h.lay h.sh) (by rw [show (2 : Nat) ^ 20 = 1048576 from rfl]; omega)⟩
theorem SmAll.nil {k : Nat} : SmAll 0 k [] := ⟨by simp [PyData.canLayAll0], by simp [PyData.intsShortAll], by simp [PyData.showableAll], by simp [PyData.weightAll], by simp [PyData.depthAll]⟩
theorem SmAll.cons {n m k : Nat} {d : PyData} {ds : List PyData} (h : SmD n k d) (hs : SmAll m k ds) : SmAll (n + m) k (d :: ds) := by
  have h1 := h.w; have h2 := hs.w; have h3 := h.dp; have h4 := hs.dp
  refine ⟨by simp [PyData.canLayAll0, h.lay, hs.lay], by simp [PyData.intsShortAll, h.sh, hs.sh], by simp [PyData.showableAll, h.shw, hs.shw], ?_, ?_⟩
  · simp only [PyData.weightAll]; omega
  · simp only [PyData.depthAll]; omega
theorem SmAll.tup {n k : Nat} {ds : List PyData} (h : SmAll n k ds) : SmD (n + 1) (k + 1) (.tuple ds) := by
  have h2 := h.w; have h4 := h.dp
  exact ⟨by simpa [PyData.canLay0] using h.lay, by simpa [PyData.intsShort] using h.sh, by simpa [PyData.showable] using h.shw, by simp only [PyData.weight]; omega, by simp only [PyData.depth]; omega⟩
theorem SmAll.lst {n k : Nat} {ds : List PyData} (h : SmAll n k ds) : SmD (n + 1) (k + 1) (.list ds) := by
  have h2 := h.w; have h4 := h.dp
  exact ⟨by simpa [PyData.canLay0] using h.lay, by simpa [PyData.intsShort] using h.sh, by simpa [PyData.showable] using h.shw, by simp only [PyData.weight]; omega, by simp only [PyData.depth]; omega⟩
theorem SmD.int {k : Nat} {i : Int} (h : i.natAbs < 1000000000000) : SmD 41 k (.int i) := by
  have hl : i.natAbs ≠ 0 → i.natAbs.log2 < 40 := fun z => (Nat.log2_lt z).2 (Nat.lt_trans h (by decide))
  refine ⟨by simp [PyData.canLay0], ?_, ?_, ?_, by simp [PyData.depth]⟩
  · simp only [PyData.intsShort, decide_eq_true_eq]; exact PyData.shown_int_le h
  · simp only [PyData.showable, decide_eq_true_eq]
    by_cases z : i.natAbs = 0
    · rw [z]; decide
    · exact Nat.lt_trans (hl z) (by decide)
  · simp only [PyData.weight]
    split
    · omega
    · rename_i z
      have := hl (by intro q; apply z; simp; omega)
      omega
theorem SmD.bool {k : Nat} (b : Bool) : SmD 1 k (.bool b) := ⟨by simp [PyData.canLay0], by simp [PyData.intsShort], by simp [PyData.showable], by simp [PyData.weight], by simp [PyData.depth]⟩
theorem SmD.non {k : Nat} : SmD 1 k .none := ⟨by simp [PyData.canLay0], by simp [PyData.intsShort], by simp [PyData.showable], by simp [PyData.weight], by simp [PyData.depth]⟩
theorem SmD.str {k m : Nat} {x : Str} (h : PyData.strOk x = true) (hm : x.cps.size ≤ m) : SmD (m + 1) k (.str x) := ⟨by simpa [PyData.canLay0] using h, by simp [PyData.intsShort], by simp [PyData.showable], by simp only [PyData.weight]; omega, by simp [PyData.depth]⟩
theorem SmD.mono {n k n' k' : Nat} {d : PyData} (h : SmD n k d) (hn : n ≤ n') (hk : k ≤ k') : SmD n' k' d := ⟨h.lay, h.sh, h.shw, Nat.le_trans h.w hn, Nat.le_trans h.dp hk⟩
theorem SmAll.mono {n k n' k' : Nat} {ds : List PyData} (h : SmAll n k ds) (hn : n ≤ n') (hk : k ≤ k') : SmAll n' k' ds := ⟨h.lay, h.sh, h.shw, Nat.le_trans h.w hn, Nat.le_trans h.dp hk⟩
theorem SmAll.all {n k : Nat} : ∀ {ds : List PyData}, (∀ d ∈ ds, SmD n k d) → SmAll (n * ds.length) k ds
  | [], _ => SmAll.nil
  | d :: ds, h => ((SmAll.cons (h d (by simp)) (SmAll.all fun e he => h e (by simp [he])))).mono (by rw [List.length_cons, Nat.mul_add]; omega) (Nat.le_refl _)
theorem SmAll.ints {k : Nat} {xs : List Int} (h : ∀ x ∈ xs, x.natAbs < 1000000000000) : SmAll (41 * xs.length) k (xs.map .int) := by
  have := SmAll.all (n := 41) (k := k) (ds := xs.map .int) fun d hd => by
    obtain ⟨x, hx, rfl⟩ := List.mem_map.mp hd
    exact SmD.int (h x hx)
  rw [List.length_map] at this
  exact this
theorem SmD.row {k : Nat} {xs : List Int} (h : ∀ x ∈ xs, x.natAbs < 1000000000000) : SmD (41 * xs.length + 1) (k + 1) (rowD xs) := (SmAll.ints h).tup
end Co

set_option Elab.async false
set_option linter.all false
set_option maxRecDepth 100000
set_option maxHeartbeats 4000000
namespace Co
open PySem PySem.Spec PyProof.Rows L2
/-! ### set(l) of a list (and of a tuple) of ints -/
abbrev nset (w : World) : Obj := { cls := .type "set", dict := none, data := .set #[] 0 (.fresh 0 0 (!w.params.followText "set-order")) }
abbrev lstIt (l : Addr) : Obj := { cls := .type "list_iterator", data := .fields #[.ref l, .int 0 0] }
section
variable {P : Program} {w : World} {A : Around} {E : Value → Shared → Prop} {s : Shared}
theorem pushS {h : Heap} {o : Obj} : (h.push o).objs.size = h.objs.size + 1 := Heap.size_push ..
set_option maxHeartbeats 3200000 in
theorem call_set_listI {l : Addr} {its : Array Value} (ns : List Int) {Q : Value → Shared → Prop} (hh : A.handled = none) (hl : s.heap.IsList l its) (hit : IntsAre its.toList ns) (hb : ns.length + 1 < scanBound)
    (k : ∀ (h2 : Heap) (tk c : Nat), SetR w h2 s.heap.objs.size (fun j => decide (j ∈ ns)) c → c ≤ ns.length → (∀ b o, s.heap.get? b = some o → h2.get? b = some o) → Q (.ref s.heap.objs.size) { s with heap := h2, toks := tk }) :
    wpAny (model P w) A (call (.type "set") [.ref l]) Q E s := by
  have sz : its.size = ns.length := by have q := IntsAre.length hit; rw [Array.length_toList] at q; exact q
  obtain ⟨c, tl, hmro⟩ := F.called_set.mro
  have m1 := F.called_set.made; have m2 := F.called_set.sub
  refine wpAny_call (codeAny_of_tree ?_); show wpAny _ _ (callAny (.type "set") _) _ _ _
  refine wpAny_pure ⟨Code.quiet_builtin _ (by decide +kernel), codeAny_builtin F.entry_type_call ?_⟩; rw [Around.under_plain (weight_type_call_type "set" [.ref l] []) rfl]
  have h1 := F.called_set.notType; have h2 := F.called_set.canCreate; have h3 := F.typeCall_set_1 (.ref l)
  repeat (any_goals (first | assumption | wp_step))
  refine codeAny_mono (code_set_led1 (.ref l) (E := E) (Q₁ := fun ob s1 => ob = .ref s.heap.objs.size ∧ s1 = { s with heap := s.heap.push (nset w) }) ⟨rfl, rfl⟩) fun r s1 hr => ?_
  match r, hr with
  | .error e, hr => exact hr
  | .ok .next, hr => exact hr.elim
  | .ok .brk, hr => exact hr.elim
  | .ok .cont, hr => exact hr.elim
  | .ok (.ret ob), hr =>
    obtain ⟨rfl, rfl⟩ := hr
    have gS : (s.heap.push (nset w)).get? s.heap.objs.size = some (nset w) := Heap.get?_push_size _ rfl
    have tS : Shared.TypeIs { s with heap := s.heap.push (nset w) } (.ref s.heap.objs.size) "set" := ⟨_, gS, rfl⟩
    have i1 := F.called_set.init.lookup; have i2 := F.called_set.init.bind (.ref s.heap.objs.size)
    repeat (any_goals (first | assumption | wp_step))
    refine codeAny_mono (codeAny_call_builtin (R := wants (fun r s2 => r = .none ∧ ∃ h2 tk c, s2 = { s with heap := h2, toks := tk } ∧ SetR w h2 s.heap.objs.size (fun j => decide (j ∈ ns)) c ∧ c ≤ ns.length ∧ ∀ b o, s.heap.get? b = some o → h2.get? b = some o) E) F.called_set.init.plain F.entry_set_init (check_set_init_1 tS ?_)) fun r2 s2 hr2 => ?_
    · obtain ⟨⟨oc, odi, oda, osl⟩, gl, cl, nl, dl⟩ := hl
      dsimp only at cl dl; subst cl; subst dl
      have gl' : (s.heap.push (nset w)).get? l = some ⟨.type "list", odi, .seq its nl, osl⟩ := Heap.get?_push_of_some _ gl
      have q1 := F.sub_list_set; have q2 := F.sub_list_frozenset; have q3 : (Value.type "list" == Value.type "dict") = false := by decide
      have hl1 : (s.heap.push (nset w)).IsList l its := ⟨_, gl', rfl, nl, rfl⟩
      unfold Builtin.«set.__init__» noKeywords Builtin.Frozenset.updateFrom
      generalize hPI : pyIter = PI
      wp_walk
      subst hPI
      refine wpAny_pyIter_list hl1 (wpAny_bind (wpAny_runValue ?_))
      have lS : l < s.heap.objs.size := Heap.lt_size gl
      have nI : l ≠ (s.heap.push (nset w)).objs.size := by rw [pushS]; exact Nat.ne_of_lt (Nat.lt_succ_of_lt lS)
      have nS : s.heap.objs.size ∉ [(s.heap.push (nset w)).objs.size, l] := by
        rw [pushS]; simp only [List.mem_cons, List.not_mem_nil, or_false, not_or]
        exact ⟨Nat.ne_of_lt (Nat.lt_succ_self _), Nat.ne_of_gt lS⟩
      have vals : ∀ (i : Nat) (v : Value), its[i]? = some v → ∃ k t, ns[i]? = some k ∧ v = .int k t := by
        intro i v hv
        have hi : i < ns.length := by rw [← sz]; exact (Array.getElem?_eq_some_iff.mp hv).1
        obtain ⟨t, e⟩ := PyProof.Rows.IntsAre.int_at hit i v (by rw [Array.getElem?_toList]; exact hv)
        rw [List.getD_eq_getElem?_getD, List.getElem?_eq_getElem hi] at e
        exact ⟨ns[i], t, List.getElem?_eq_getElem hi, e⟩
      have gS2 : ((s.heap.push (nset w)).push (lstIt l)).get? s.heap.objs.size = some (nset w) := Heap.get?_push_of_some _ gS
      refine set_update_ints ((Walks.list (A := A.in1.in1.in1) (by simp [hh]) _ l nI its).toS) s.heap.objs.size nS ns sz hb vals (its.size - 0) 0 _ (by omega) (Nat.zero_le _) ⟨⟨_, Heap.get?_push_size _ rfl, rfl, rfl⟩, hl1.push _⟩ ⟨0, Nat.le_refl 0, setR_new_at gS2⟩ ?_
      rintro ⟨h2, g2, d2, t2, o2⟩ c' hm hc' hS'
      cases (show g2 = s.gens from hm.gens); cases (show d2 = s.drawn from hm.drawn); cases (show o2 = s.os from hm.os)
      rw [sz] at hc'
      show wpAny _ _ _ _ _ _
      refine wpAny_pure ?_
      show wpAny _ _ (ret Value.none) _ _ _
      refine wpAny_pure ⟨rfl, h2, t2, c', rfl, hS', hc', fun b o e => ?_⟩
      have b0 : b < s.heap.objs.size := Heap.lt_size e
      refine hm.heap b o ?_ (Heap.get?_push_of_some _ (Heap.get?_push_of_some _ e))
      rw [pushS]; simp only [List.mem_cons, List.not_mem_nil, or_false, not_or]
      exact ⟨Nat.ne_of_lt b0, Nat.ne_of_lt (Nat.lt_succ_of_lt b0)⟩
    · match r2, hr2 with
      | .error e, hr2 => exact hr2
      | .ok .next, hr2 => exact hr2.elim
      | .ok .brk, hr2 => exact hr2.elim
      | .ok .cont, hr2 => exact hr2.elim
      | .ok (.ret r), hr2 =>
        obtain ⟨rfl, h3, tk, c', rfl, hS', hc', hk'⟩ := hr2
        repeat (any_goals (first | assumption | wp_step))
        exact k _ _ _ hS' hc' hk'
end
end Co

set_option Elab.async false
set_option linter.all false
set_option maxRecDepth 100000
set_option maxHeartbeats 4000000
namespace Co
open PySem PySem.Spec PyProof.Rows L2
def rSetS (w : World) (K : PySem.W.Frag) : List V → Hp → VK → Prop := fun xs H Q => ∃ (p : Addr) (ns : List Int), xs = [.ref p] ∧ (SqL K H p (ns.map V.int) ∨ SqT K H p (ns.map V.int)) ∧ ns.length ≤ 1000 ∧ ∀ D c, H D = none → c ≤ ns.length → Q (.ref D) (upd H D (SetO w D (fun j => decide (j ∈ ns)) c))
theorem intsOf : ∀ {ns : List Int} {us : List Value}, Vals (ns.map V.int) us → IntsAre us ns
  | [], _, h => by cases h; exact .nil
  | n :: ns, _, h => by
    cases h with
    | cons r rr => obtain ⟨t, rfl⟩ := r; exact .cons n t (intsOf rr)
theorem cr_setS {X : Cx} (hc : X.calm = true) : CallR X (.type "set") (rSetS X.w X.K) := by
  intro pins s σ H xs us Q I r h
  obtain ⟨p, ns, rfl, hq, hl, q⟩ := h
  obtain ⟨u, rfl, rx⟩ := vals1 r
  cases rx
  have hb : ns.length + 1 < scanBound := Nat.lt_of_le_of_lt (Nat.succ_le_succ hl) (by decide)
  have hn : H s.heap.objs.size = none := I.hok.fresh (Nat.le_refl _)
  have fin : ∀ (h2 : Heap) (tk c : Nat), SetR X.w h2 s.heap.objs.size (fun j => decide (j ∈ ns)) c → c ≤ ns.length → (∀ b o, s.heap.get? b = some o → h2.get? b = some o) → EP X pins σ Q (.ref s.heap.objs.size) { s with heap := h2, toks := tk } :=
    fun h2 tk c R hle kp => ⟨.ref s.heap.objs.size, _, I.laid (t' := tk) kp (Nat.le_refl _) (setO_new R), rfl, q _ c hn hle⟩
  rcases hq with hq | hq
  · obtain ⟨its, rv, pl, _⟩ := I.list hq
    exact call_set_listI ns (I.ok.hd hc) pl.isList (by simpa using intsOf rv) hb fin
  · obtain ⟨its, rv, pt, _⟩ := I.tuple hq
    exact call_set_tupI ns (I.ok.hd hc) pt (by simpa using intsOf rv) hb fin
theorem w_setS {w : World} {K : PySem.W.Frag} {p : Addr} {ns : List Int} {H : Hp} {Q : VK} (h : SqL K H p (ns.map V.int) ∨ SqT K H p (ns.map V.int)) (hl : ns.length ≤ 1000) (q : ∀ D c H', H D = none → c ≤ ns.length → Same H H' → H' D = some (SetO w D (fun j => decide (j ∈ ns)) c) → Q (.ref D) H') : rSetS w K [.ref p] H Q :=
  ⟨p, ns, rfl, h, hl, fun D c nD hc => q D c _ nD hc (Same.new nD) upd_same⟩
/-- sorted(set(..)) of at most 63 ints: the ascending row -/
theorem w_sortedOf {w : World} {D : Addr} {ns : List Int} {c : Nat} {H : Hp} {Q : VK} (h : H D = some (SetO w D (fun j => decide (j ∈ ns)) c)) (hc : c < 64) (q : ∀ (ms : List Int) (p : Addr) H', ms.Pairwise (· < ·) → (∀ k : Int, k ∈ ms ↔ k ∈ ns) → H p = none → Same H H' → H' p = some (.lst (ms.map V.int)) → Q (.ref p) H') : rSortedSet w [.ref D] H Q :=
  w_sortedSet h hc fun ms p H' h1 h2 _ h4 h5 h6 => q ms p H' h1 (fun k => (h2 k).trans decide_eq_true_iff) h4 h5 h6
end Co

set_option Elab.async false
set_option linter.all false
set_option maxRecDepth 100000
set_option maxHeartbeats 4000000
namespace Co
open PySem PySem.Spec PyProof.Rows L2 PySem.W
/-! ### min(t), max(t) of a tuple of ints -/
def rEndT (f : Int → Int → Int) (K : PySem.W.Frag) : List V → Hp → VK → Prop := fun xs H Q => ∃ (p : Addr) (n : Int) (ns : List Int), xs = [.ref p] ∧ SqT K H p ((n :: ns).map V.int) ∧ Q (.int (ns.foldl f n)) H
theorem alikeInts : ∀ ns : List Int, AlikeAll (ns.map PyData.int) := fun ns => ⟨fun x hx y hy => by
  obtain ⟨a, _, rfl⟩ := List.mem_map.mp hx
  obtain ⟨b, _, rfl⟩ := List.mem_map.mp hy
  rfl, fun x hx => by obtain ⟨a, _, rfl⟩ := List.mem_map.mp hx; simp⟩
theorem readInt {h : Heap} {v : Value} {n : Int} {bs : List Addr} (r : Reads h v (.int n) bs) : RelV (.int n) v := by cases r; exact ⟨_, rfl⟩
theorem cr_minT {X : Cx} (hc : X.calm = true) (hu : X.A.units + 70 < cLine) : CallR X (.builtin "min") (rEndT min X.K) := by
  intro pins s σ H xs us Q I r h
  obtain ⟨p, n, ns, rfl, hq, q⟩ := h
  obtain ⟨u, rfl, rx⟩ := vals1 r
  cases rx
  obtain ⟨its, rv, pt, _⟩ := I.tuple hq
  have hi := intsOf rv
  have dp := (lay_ints (n :: ns)).2
  refine min_tuple_data (x := .int n) (xs := ns.map .int) (as := []) (I.ok.hd hc) pt (by simpa using hi.reads s.heap) (alikeInts (n :: ns)) (by rw [List.map_cons] at dp; omega) fun i v h' tk bs _ hr hk => ?_
  rw [minD_ints] at hr
  exact ⟨.int _, H, I.kept (t' := tk) hk, readInt hr, q⟩
theorem cr_maxT {X : Cx} (hc : X.calm = true) (hu : X.A.units + 70 < cLine) : CallR X (.builtin "max") (rEndT max X.K) := by
  intro pins s σ H xs us Q I r h
  obtain ⟨p, n, ns, rfl, hq, q⟩ := h
  obtain ⟨u, rfl, rx⟩ := vals1 r
  cases rx
  obtain ⟨its, rv, pt, _⟩ := I.tuple hq
  have hi := intsOf rv
  have dp := (lay_ints (n :: ns)).2
  refine max_tuple_data (x := .int n) (xs := ns.map .int) (as := []) (I.ok.hd hc) pt (by simpa using hi.reads s.heap) (alikeInts (n :: ns)) (by rw [List.map_cons] at dp; omega) fun i v h' tk bs _ hr hk => ?_
  rw [maxD_ints] at hr
  exact ⟨.int _, H, I.kept (t' := tk) hk, readInt hr, q⟩
/-! ### more steps -/
theorem w_inT {K : PySem.W.Frag} {x : V} {p : Addr} {xs : List V} {H : Hp} {Q : VK} {b : Bool} (h : SqT K H p xs) (hx : flatV x = true) (ha : xs.all flatV = true) (hb : inV x xs = b) (q : Q (.bl b) H) : rIn K false x (.ref p) H Q := ⟨p, xs, rfl, .inr h, hx, ha, by rw [hb]; exact q⟩
theorem flat_ints (xs : List Int) : (xs.map V.int).all flatV = true := by
  rw [List.all_eq_true]
  intro v hv
  obtain ⟨s, _, rfl⟩ := List.mem_map.mp hv
  rfl
theorem inV_ints (k : Int) (xs : List Int) : inV (.int k) (xs.map V.int) = decide (k ∈ xs) := by
  induction xs with
  | nil => rfl
  | cons x r ih =>
    have e : inV (.int k) ((x :: r).map V.int) = ((x == k) || inV (.int k) (r.map V.int)) := rfl
    rw [e, ih, Bool.eq_iff_iff]
    simp only [Bool.or_eq_true, beq_iff_eq, decide_eq_true_eq, List.mem_cons]
    constructor
    · rintro (h | h)
      · exact .inl h.symm
      · exact .inr h
    · rintro (h | h)
      · exact .inl h.symm
      · exact .inr h
theorem w_inTi {K : PySem.W.Frag} {k : Int} {p : Addr} {ns : List Int} {H : Hp} {Q : VK} (h : SqT K H p (ns.map V.int)) (q : Q (.bl (decide (k ∈ ns))) H) : rIn K false (.int k) (.ref p) H Q := w_inT h rfl (flat_ints ns) (inV_ints k ns) q
theorem eqvInts : ∀ xs ys : List Int, PyData.eqvAll (xs.map .int) (ys.map .int) = decide (xs = ys)
  | [], [] => by simp [PyData.eqvAll]
  | [], y :: ys => by simp [PyData.eqvAll]
  | x :: xs, [] => by simp [PyData.eqvAll]
  | x :: xs, y :: ys => by
    rw [List.map_cons, List.map_cons, PyData.eqvAll, eqvInts xs ys, PyData.eqv, Bool.eq_iff_iff]
    simp
/-- == and != of what need not be equal -/
theorem w_eqE {K : PySem.W.Frag} {x y : V} {d e : PyData} {b : Bool} {H : Hp} {Q : VK} (h1 : Dp K H x d) (h2 : Dp K H y e) (s1 : SeqAt.shaped d = true) (s2 : SeqAt.shaped e = true) (hb : PyData.eqv d e = b) (q : Q (.bl b) H) : rEqD K x y H Q := ⟨d, e, h1, h2, s1, s2, by rw [hb]; exact q⟩
theorem w_neE {K : PySem.W.Frag} {x y : V} {d e : PyData} {b : Bool} {H : Hp} {Q : VK} (h1 : Dp K H x d) (h2 : Dp K H y e) (s1 : SeqAt.shaped d = true) (s2 : SeqAt.shaped e = true) (hb : PyData.eqv d e = b) (q : Q (.bl (!b)) H) : rNeD K x y H Q := ⟨d, e, h1, h2, s1, s2, by rw [hb]; exact q⟩
theorem w_allB {K : PySem.W.Frag} {a : Addr} {bs : List Bool} {H : Hp} {Q : VK} (h : H a = some (.lst (bs.map V.bl))) (q : Q (.bl (bs.all id)) H) : rAll K [.ref a] H Q := ⟨a, bs, rfl, .of h, q⟩
theorem w_anyB {K : PySem.W.Frag} {a : Addr} {bs : List Bool} {H : Hp} {Q : VK} (h : H a = some (.lst (bs.map V.bl))) (q : Q (.bl (bs.any id)) H) : rAny K [.ref a] H Q := ⟨a, bs, rfl, .of h, q⟩
theorem w_isiB {K : PySem.W.Frag} {b : Bool} {H : Hp} {Q : VK} (q : Q (.bl true) H) : rIsi K [.bl b, .ty "bool"] H Q := ⟨.bl b, .ty "bool", .type "bool", .type "bool", true, rfl, .ty _, .base (.bl _), kit_ty (by decide +kernel), q⟩
theorem w_gTupS {K : PySem.W.Frag} {n : Nat} {t : TGs} {a : Addr} {xs : List V} {σ : L2.St} {H : Hp} {Q : L2.St → Hp → Prop} (h : SqT K H a xs) (hn : xs.length = n) (q : t xs σ H Q) : gTup K n t (.ref a) σ H Q := ⟨a, xs, rfl, h, hn, q⟩
def rIsNQ : R2 := fun x y H Q => y = .non ∧ Q (.bl (decide (x = .non))) H
def rNotNQ : R2 := fun x y H Q => y = .non ∧ Q (.bl (!decide (x = .non))) H
theorem op_isNQ {X : Cx} : OpR X (compareOp .Is) rIsNQ := op_isN
theorem op_notNQ {X : Cx} : OpR X (compareOp .IsNot) rNotNQ := op_notN
theorem w_isNN {H : Hp} {Q : VK} (q : Q (.bl true) H) : rIsNQ .non .non H Q := ⟨rfl, q⟩
theorem w_isNR {a : Addr} {H : Hp} {Q : VK} (q : Q (.bl false) H) : rIsNQ (.ref a) .non H Q := ⟨rfl, q⟩
theorem w_notNN {H : Hp} {Q : VK} (q : Q (.bl false) H) : rNotNQ .non .non H Q := ⟨rfl, q⟩
theorem w_notNR {a : Addr} {H : Hp} {Q : VK} (q : Q (.bl true) H) : rNotNQ (.ref a) .non H Q := ⟨rfl, q⟩
theorem w_par {i j : Nat} {ta : TA} {D : Ends} {σ : L2.St} {H : Hp} (q : ta σ H fun vs H1 => ∃ v w, vs = [v, w] ∧ D.nx ((σ.set i (some v)).set j (some w)) H1) : tPar i j ta D σ H := q
theorem w_par3 {i j l : Nat} {ta : TA} {D : Ends} {σ : L2.St} {H : Hp} (q : ta σ H fun vs H1 => ∃ u v w, vs = [u, v, w] ∧ D.nx (((σ.set i (some u)).set j (some v)).set l (some w)) H1) : tPar3 i j l ta D σ H := q
theorem w_two {v w : V} {B : V → V → Prop} (q : B v w) : ∃ v' w', [v, w] = [v', w'] ∧ B v' w' := ⟨v, w, rfl, q⟩
theorem w_three {u v w : V} {B : V → V → V → Prop} (q : B u v w) : ∃ u' v' w', [u, v, w] = [u', v', w'] ∧ B u' v' w' := ⟨u, v, w, rfl, q⟩
theorem w_catL {l b : Addr} {xs zs : List V} {H : Hp} {Q : VK} (h1 : H l = some (.lst xs)) (h2 : H b = some (.lst zs)) (hl : xs.length + zs.length ≤ sizeLine) (q : ∀ p H', H p = none → Same H H' → H' p = some (.lst (xs ++ zs)) → Q (.ref p) H') : rCat (.ref l) (.ref b) H Q :=
  ⟨l, b, xs, zs, rfl, rfl, h1, h2, hl, fun p np => q p _ np (fun b x e => by rw [upd_ne (ne_of_none e np)]; exact e) upd_same⟩
end Co

set_option Elab.async false
set_option linter.all false
set_option maxRecDepth 100000
set_option maxHeartbeats 4000000
namespace Co
open PySem PySem.Spec PyProof.Rows L2
/-! ### d.get(k), d.get(k, x) of a dict of the module -/
/-- what stands under a key: a value, or nothing -/
def KGet (K : PySem.W.Frag) (w : World) (a : Addr) (x : Str) (o : Option V) : Prop :=
  ∃ es n, K.lookup a = some ⟨.type "dict", none, .dict es n, #[]⟩ ∧ PySem.W.KeysLit w.params es.toList ∧ (a == sysModules) = false ∧ ((o = none ∧ PySem.W.nsIn K a x = some none) ∨ ∃ v u, o = some v ∧ PySem.W.nsIn K a x = some (some u) ∧ RelV v u)
def tKGet1 (K : PySem.W.Frag) (w : World) (td ty : TE) : TE := fun σ H Q => td σ H fun x H1 => ∃ a, x = .ref a ∧ (∃ z o, KGet K w a z o) ∧ ty σ H1 fun y H2 => ∃ z o, y = .str z ∧ KGet K w a z o ∧ Q (o.getD .non) H2
def tKGet2 (K : PySem.W.Frag) (w : World) (td ty tx : TE) : TE := fun σ H Q => td σ H fun x H1 => ∃ a, x = .ref a ∧ (∃ z o, KGet K w a z o) ∧ ty σ H1 fun y H2 => tx σ H2 fun d H3 => ∃ z o, y = .str z ∧ KGet K w a z o ∧ Q (o.getD d) H3
section
variable {X : Cx} {pins : List (Addr × Obj)} {σ : L2.St} {H : Hp} {s : Shared} {a : Addr}
theorem kget_dict (I : Inv X pins σ H s) {z : Str} {o : Option V} (g : KGet X.K X.w a z o) : s.TypeIs (.ref a) "dict" ∧ (∀ b, Value.ref a = .ref b → ∃ ob, s.heap.get? b = some ob ∧ ob.dict = none) := by
  obtain ⟨es, n, hl, hk, _, _⟩ := g
  have e := I.kIn _ _ hl
  exact ⟨⟨_, e, rfl⟩, fun b q => by cases q; exact ⟨_, e, rfl⟩⟩
theorem kget_val {z : Str} {o : Option V} (g : KGet X.K X.w a z o) : ∃ es n, X.K.lookup a = some ⟨.type "dict", none, .dict es n, #[]⟩ ∧ PySem.W.KeysLit X.w.params es.toList ∧ ((o = none ∧ PySem.findBy Value.isStrOf es z = none) ∨ ∃ v u, o = some v ∧ PySem.findBy Value.isStrOf es z = some u ∧ RelV v u) := by
  obtain ⟨es, n, hl, hk, _, h⟩ := g
  refine ⟨es, n, hl, hk, ?_⟩
  rcases h with ⟨e, h⟩ | ⟨v, u, e, h, r⟩
  · exact .inl ⟨e, PySem.W.find_K hl h⟩
  · exact .inr ⟨v, u, e, PySem.W.find_K hl h, r⟩
theorem kget1 {z : Str} {o : Option V} {t : Tok} {A : Around} {E : Value → Shared → Prop} {Q : Value → Shared → Prop} (I : Inv X pins σ H s) (g : KGet X.K X.w a z o) (h : ∀ w' s', Inv X pins σ H s' → RelV (o.getD .non) w' → Q w' s') :
    wpAny (model X.prog X.w) A (call (.builtin "dict.get") [.ref a, .str z t]) Q E s := by
  obtain ⟨es, n, hl, hk, hv⟩ := kget_val g
  obtain ⟨_, _, _, _, hm, _⟩ := id g
  have M := PySem.W.mapOf_K (prog := X.prog) (w := X.w) I.kIn hl hk
  refine call_meetsIn PySem.F.slot_dict_get M.typeIs PySem.F.entry_dict_get (PySem.F.args_dict_get_2 _ _) (meets_dict_get (strKind X.prog X.w) a (strKind_is X.prog X.w z t) hm) ⟨_, M, h _ _ (I.tok _) ?_⟩
  rcases hv with ⟨rfl, e⟩ | ⟨v, u, rfl, e, r⟩
  · rw [e]; rfl
  · rw [e]; exact r
theorem kget2 {z : Str} {o : Option V} {d : V} {r : Value} {t : Tok} {A : Around} {E : Value → Shared → Prop} {Q : Value → Shared → Prop} (I : Inv X pins σ H s) (g : KGet X.K X.w a z o) (rd : RelV d r) (h : ∀ w' s', Inv X pins σ H s' → RelV (o.getD d) w' → Q w' s') :
    wpAny (model X.prog X.w) A (call (.builtin "dict.get") [.ref a, .str z t, r]) Q E s := by
  obtain ⟨es, n, hl, hk, hv⟩ := kget_val g
  obtain ⟨_, _, _, _, hm, _⟩ := id g
  have M := PySem.W.mapOf_K (prog := X.prog) (w := X.w) I.kIn hl hk
  refine call_meetsIn PySem.F.slot_dict_get M.typeIs PySem.F.entry_dict_get (PySem.F.args_dict_get_3 _ _ _) (meets_dict_get_default (strKind X.prog X.w) a (strKind_is X.prog X.w z t) hm r) ⟨_, M, h _ _ (I.tok _) ?_⟩
  rcases hv with ⟨rfl, e⟩ | ⟨v, u, rfl, e, ru⟩
  · rw [e]; exact rd
  · rw [e]; exact ru
end
section
variable {X : Cx} {o e f : Expr} {apos cpos : Pos} {td ty tx : TE}
theorem pe_kget1 (ho : PE X o td) (he : PE X e ty) (m : M1 X o "get" apos e cpos := by first | exact ⟨rfl, rfl, rfl, rfl⟩ | exact ⟨by rfl, by rfl, by rfl, by rfl⟩) : PE X (.Call (.Attribute o "get" apos) [e] [] cpos) (tKGet1 X.K X.w td ty) := by
  refine ⟨fun pins s σ H Q I h => ?_⟩
  refine wpAny_Call_method m.base m.few m.line PySem.F.plainAttrs_dict PySem.F.slot_dict_get PySem.F.type_dict_get (thn (ho.run pins s σ H _ I h) fun u s1 ⟨x, H1, I1, rx, a, ex, ⟨z0, o0, g0⟩, q1⟩ => ?_)
  subst ex
  obtain rfl : u = Value.ref a := rx
  obtain ⟨t1, t2⟩ := kget_dict I1 g0
  refine ⟨t1, t2, ?_⟩
  rw [m.trees]
  refine Calls.callWith_builtin rfl (Calls.evalArgs_plain (Calls.spliced_cons (thn (he.run pins s1 σ H1 _ I1 q1) fun iv s2 ⟨y, H2, I2, ry, z, ov, ey, g, q2⟩ => Calls.spliced_nil ?_)))
  subst ey
  obtain ⟨t, rfl⟩ := ry
  exact kget1 I2 g fun w' s3 I3 rw' => ⟨_, H2, I3, rw', q2⟩
theorem pe_kget2 (ho : PE X o td) (he : PE X e ty) (hf : PE X f tx) (m : M2 X o "get" apos e f cpos := by first | exact ⟨rfl, rfl, rfl, rfl⟩ | exact ⟨by rfl, by rfl, by rfl, by rfl⟩) : PE X (.Call (.Attribute o "get" apos) [e, f] [] cpos) (tKGet2 X.K X.w td ty tx) := by
  refine ⟨fun pins s σ H Q I h => ?_⟩
  refine wpAny_Call_method m.base m.few m.line PySem.F.plainAttrs_dict PySem.F.slot_dict_get PySem.F.type_dict_get (thn (ho.run pins s σ H _ I h) fun u s1 ⟨x, H1, I1, rx, a, ex, ⟨z0, o0, g0⟩, q1⟩ => ?_)
  subst ex
  obtain rfl : u = Value.ref a := rx
  obtain ⟨t1, t2⟩ := kget_dict I1 g0
  refine ⟨t1, t2, ?_⟩
  rw [m.trees]
  refine Calls.callWith_builtin rfl (Calls.evalArgs_plain (Calls.spliced_cons (thn (he.run pins s1 σ H1 _ I1 q1) fun iv s2 ⟨y, H2, I2, ry, q2⟩ =>
    Calls.spliced_cons (thn (hf.run pins s2 σ H2 _ I2 q2) fun fv s3 ⟨d, H3, I3, rz, z, ov, ey, g, q3⟩ => Calls.spliced_nil ?_))))
  subst ey
  obtain ⟨t, rfl⟩ := ry
  exact kget2 I3 g rz fun w' s4 I4 rw' => ⟨_, H3, I4, rw', q3⟩
end
theorem w_kget1 {K : PySem.W.Frag} {w : World} {td ty : TE} {σ : L2.St} {H : Hp} {Q : VK} (q : td σ H fun x H1 => ∃ a, x = .ref a ∧ (∃ z o, KGet K w a z o) ∧ ty σ H1 fun y H2 => ∃ z o, y = .str z ∧ KGet K w a z o ∧ Q (o.getD .non) H2) : tKGet1 K w td ty σ H Q := q
theorem w_kget2 {K : PySem.W.Frag} {w : World} {td ty tx : TE} {σ : L2.St} {H : Hp} {Q : VK} (q : td σ H fun x H1 => ∃ a, x = .ref a ∧ (∃ z o, KGet K w a z o) ∧ ty σ H1 fun y H2 => tx σ H2 fun d H3 => ∃ z o, y = .str z ∧ KGet K w a z o ∧ Q (o.getD d) H3) : tKGet2 K w td ty tx σ H Q := q
/-! ### a def that a table holds -/
structure StF (K : PySem.W.Frag) (q : Str) (st : Stmt) (ps : List Str) (f : Addr) : Prop where
  ex : ∃ fd, Fun K q q st f fd ∧ Binds K fd ps []
theorem StF.cd {P : Program} {w : World} {K : PySem.W.Frag} {mg : Str → Option Value} {base : Heap} {x : Str} {st : Stmt} {k : Nat} {f : Addr} {N ps : List Str} {sp : Sp} (Z : StF K x st ps f) (S : FnScope N ps (defScope st)) (len : ∀ vs H Q E, sp vs H Q E → vs.length = ps.length)
    (hbody : ∀ (f : Addr) (cdv : Value) (A : Around) (outer : List Env) (s : Shared) (H : Hp) (vs : List V) (Q : VK) (E : XK), Room k (A.deeper (envOfC x (defScope st) s.heap.objs.size f cdv)) → sp vs H Q E →
      ∃ t, PSs (cxOf CX0 P w K mg base N x (defScope st) f cdv A outer s H E).nox (defBody st) t ∧ t { nx := fun _ H' => Q .non H', rt := Q } (start N vs) H) : Held P w K mg base (k + 1) f sp := by
  obtain ⟨fd, F, b⟩ := Z.ex
  exact ⟨⟨fd, ps, F.ok S len (hbody f), F.kp, b⟩⟩
theorem mkStF {K : PySem.W.Frag} {x : Str} {st : Stmt} {ps : List Str} {f : Addr} {oc : Value} {od an : Option Addr} {osl : Array (Option Value)} {kV doc pm cdv ct : Value}
    (l : K.lookup f = some ⟨oc, od, .func (PySem.W.fnOf x x (defArgs st) (defBody st) (defScope st) .none kV doc pm an cdv ct), osl⟩) (c : PySem.W.codeIn K cdv x = true) (k : PySem.W.keepIn K (.ref f) = true)
    (hb : ∀ (kV doc pm : Value) (an : Option Addr) (cdv ct : Value) (us : List Value), us.length = ps.length → bindArgs (PySem.W.fnOf x x (defArgs st) (defBody st) (defScope st) .none kV doc pm an cdv ct) ⟨us, []⟩ = pure (ps.zip us)) : StF K x st ps f :=
  ⟨_, fun_mk (st := st) l c k, (fun_mk (st := st) l c k).binds hb⟩
end Co

set_option Elab.async false
set_option linter.all false
set_option maxRecDepth 100000
set_option maxHeartbeats 4000000
namespace Co
open PySem PySem.Spec PyProof.Rows L2
/-! ### sorted(found) of a set of ints, also of 64 and more -/
section
variable {P : Program} {w : World} {A : Around} {E : Value → Shared → Prop} {s : Shared} {a : Addr}
/-- what sorted leaves: all as it was, and a new list of the members in ascending order -/
structure SortedOut (s : Shared) (S : Int → Bool) (n : Nat) (p : Addr) (ns : List Int) (s' : Shared) : Prop where
  old : ∀ b o, s.heap.get? b = some o → s'.heap.get? b = some o
  gens : s'.gens = s.gens
  os : s'.os = s.os
  new : s.heap.objs.size ≤ p
  row : ∃ (out : Array Value) (c : Nat), s'.heap.get? p = some (seqObj "list" out c) ∧ IntsAre out.toList ns
  asc : ns.Pairwise (· < ·)
  mem : ∀ k, k ∈ ns ↔ S k = true
  len : ns.length = n
theorem sortedSet_any {S : Int → Bool} {n : Nat} {Q : Value → Shared → Prop} (R : SetR w s.heap a S n) (hh : A.handled = none) (hz : n ≤ sizeLine) (hQ : ∀ s' p ns, SortedOut s S n p ns s' → Q (.ref p) s') :
    wpAny (model P w) A (call (.builtin "sorted") [.ref a]) Q E s := by
  obtain ⟨o, es, ep, t, at1, exact1, dat, good, nodup, memb, room, fits, size, ris, led⟩ := R
  refine Calls.call_function_entry kind_sorted plain_sorted entry_sorted (args_sorted1 _) ?_
  unfold Builtin.«sorted»
  refine wpAny_bind (m := checkCount "sorted" 1 1 _) (wpAny_pure (wpAny_bind (collect_set (A := A.in1) hh ⟨o, at1, exact1.1, dat⟩ fits room ris led ?_)))
  intro s1 vs keep1 _ gens1 os1 perm1
  have lvs : vs.length = n := by simpa [size] using perm1.length_eq
  have each : ∀ v ∈ vs, ∃ (k : Int) (tk : Tok), v = .int k tk := fun v hv => by
    obtain ⟨e, he, rfl⟩ := List.mem_map.mp (perm1.mem_iff.mp hv)
    obtain ⟨k, tk, h1, _⟩ := good e he
    exact ⟨k, tk, h1⟩
  have keys : (vs.map Builtin.Re.reRawOf).Perm (es.toList.map keyOf) := (perm1.map Builtin.Re.reRawOf).trans (.of_eq (by rw [List.map_map]; rfl))
  have areInts : IntsAre vs (vs.map Builtin.Re.reRawOf) := ints_of vs each
  have hv : vs.length ≤ sizeLine := by omega
  refine wpAny_bind (wpAny_newList ?_ hv)
  have there : (s1.heap.push (seqObj "list" vs.toArray 0)).get? s1.heap.objs.size = some (seqObj "list" vs.toArray 0) := Heap.get?_push_size _ rfl
  refine wpAny_bind (wpAny_holding (wpAny_call_entry slot_list_sort ⟨_, there, rfl⟩ entry_list_sort (list_sort_treeAny there areInts hv ?_) (args_list_sort _)))
  intro out ns arow aperm asc
  have all := aperm.trans keys
  refine ⟨_, rfl, wpAny_pure ⟨_, rfl, hQ _ _ ns ⟨fun b u e => ?_, gens1, os1, ‹_›, ?_, lt_of_le_nodup ns asc (all.nodup_iff.mpr nodup), fun k => by rw [all.mem_iff, memb k], by simpa [size] using all.length_eq⟩⟩⟩
  · have q := keep1 b u e
    have lt := Heap.lt_size q
    show (sortedHeap (s1.heap.push (seqObj "list" vs.toArray 0)) s1.heap.objs.size vs out).get? b = some u
    rw [sortedHeap_old (Nat.ne_of_lt lt) (by rw [size_push']; exact Nat.lt_succ_of_lt lt)]
    exact Heap.get?_push_of_some _ q
  · obtain ⟨c, hc⟩ := sortedHeap_at (vs := vs) (out := out) there
    exact ⟨out, c, hc, arow⟩
end
def rSortedB (w : World) : List V → Hp → VK → Prop := fun vs H Q => ∃ (a : Addr) (S : Int → Bool) (n : Nat), vs = [V.ref a] ∧ H a = some (SetO w a S n) ∧ n ≤ 1000 ∧
  ∀ (ns : List Int) (p : Addr) (H' : Hp), ns.Pairwise (· < ·) → (∀ k : Int, k ∈ ns ↔ S k = true) → ns.length = n → H p = none → Same H H' → H' p = some (.lst (ns.map V.int)) → Q (.ref p) H'
theorem cr_sortedB {X : Cx} (hc : X.calm = true) : CallR X (.builtin "sorted") (rSortedB X.w) := by
  intro pins s σ H vs us Q I r h
  obtain ⟨a, S, n, rfl, ha, hn, q⟩ := h
  have small : n ≤ sizeLine := Nat.le_trans hn (by decide)
  rw [Vals.ref1 r]
  refine sortedSet_any (setO_get I ha) (I.ok.hd hc) small fun s' p ns z => ?_
  have free : H p = none := I.hok.fresh z.new
  obtain ⟨out, c, at1, row⟩ := z.row
  have ok1 : ObjOk X.prog X.w (upd H p (.lst (ns.map V.int))) s'.heap p (.lst (ns.map V.int)) := ⟨by rw [List.length_map, z.len]; exact small, out.toList, c, vals_of_ints row, at1⟩
  have J : Inv X pins σ (upd H p (.lst (ns.map V.int))) { s with heap := s'.heap, gens := s'.gens, drawn := s'.drawn, toks := s'.toks } :=
    I.call (ch := []) (Un.laid z.old z.new free) (I.hok.laid z.old z.new ok1) (by rw [z.gens]; exact I.bare) (fun _ z => nomatch z)
  have same : s' = { s with heap := s'.heap, gens := s'.gens, drawn := s'.drawn, toks := s'.toks } := by
    have o := z.os
    cases s'; cases s; cases o; rfl
  rw [same]
  exact ⟨.ref p, _, J, rfl, q ns p _ z.asc z.mem z.len free (Same.new free) upd_same⟩
theorem w_sortedB {w : World} {a : Addr} {S : Int → Bool} {n : Nat} {H : Hp} {Q : VK} (h : H a = some (SetO w a S n)) (hn : n ≤ 1000) (q : ∀ (ns : List Int) (p : Addr) H', ns.Pairwise (· < ·) → (∀ k : Int, k ∈ ns ↔ S k = true) → ns.length = n → H p = none → Same H H' → H' p = some (.lst (ns.map V.int)) → Q (.ref p) H') : rSortedB w [.ref a] H Q :=
  ⟨a, S, n, rfl, h, hn, q⟩
theorem w_sortedOfB {w : World} {D : Addr} {ns : List Int} {c : Nat} {H : Hp} {Q : VK} (h : H D = some (SetO w D (fun j => decide (j ∈ ns)) c)) (hc : c ≤ 1000) (q : ∀ (ms : List Int) (p : Addr) H', ms.Pairwise (· < ·) → (∀ k : Int, k ∈ ms ↔ k ∈ ns) → ms.length = c → H p = none → Same H H' → H' p = some (.lst (ms.map V.int)) → Q (.ref p) H') : rSortedB w [.ref D] H Q :=
  w_sortedB h hc fun ms p H' h1 h2 h3 h4 h5 h6 => q ms p H' h1 (fun k => (h2 k).trans decide_eq_true_iff) h3 h4 h5 h6
/-! ### a list's comprehension of two clauses, over tuples -/
/-- the inner clause's loop -/
def kIn2 (g1 : TG) (tt1 : TT) (te : TE) (vs1 : List Nat) (σ2 : L2.St) (D : Addr) (Nx : Hp → Prop) : It → Hp → Prop := fun J1 H4 => ∃ W1 : Nat → Nat → Hp → Prop, (∃ m, W1 0 m H4) ∧ ∀ j k H, W1 j k H →
  (J1.stop j H ∧ Nx H) ∨ (J1.go j H ∧ ∃ Nx1 : Hp → Prop, (∀ H', Nx1 H' → ∃ k', k' < k ∧ W1 (j + 1) k' H') ∧ ∀ x H', J1.yld j H x H' → g1 x (wipe σ2 vs1) H' fun σ3 H5 => wipe σ3 vs1 = wipe σ2 vs1 ∧ tt1 σ3 H5 fun b H6 =>
    if b = true then te σ3 H6 fun y H7 => ∃ acc, H7 D = some (.lst acc) ∧ acc.length < sizeLine ∧ Nx1 (upd H7 D (.lst (acc ++ [y]))) else Nx1 H6)
/-- the whole, from its first source's iterator on -/
def kLc2 (g : TG) (tt : TT) (wi1 : TI) (g1 : TG) (tt1 : TT) (te : TE) (vs vs1 : List Nat) (σ : L2.St) (Q : VK) : It → Hp → Prop := fun J H1 => ∀ D, H1 D = none → ∃ W : Nat → Nat → Hp → Prop, (∃ m, W 0 m (upd H1 D (.lst []))) ∧ ∀ i m H, W i m H →
  (J.stop i H ∧ Q (.ref D) H) ∨ (J.go i H ∧ ∃ Nx : Hp → Prop, (∀ H', Nx H' → ∃ m', m' < m ∧ W (i + 1) m' H') ∧ ∀ x H', J.yld i H x H' → g x (wipe σ vs) H' fun σ2 H2 => wipe σ2 vs = wipe σ vs ∧ tt σ2 H2 fun b H3 =>
    if b = true then wi1 σ2 H3 (kIn2 g1 tt1 te vs1 σ2 D Nx) else Nx H3)
theorem w_lc2 {wi : TI} {g : TG} {tt : TT} {wi1 : TI} {g1 : TG} {tt1 : TT} {te : TE} {vs vs1 : List Nat} {σ : L2.St} {H : Hp} {Q : VK} (q : wi σ H (kLc2 g tt wi1 g1 tt1 te vs vs1 σ Q)) : tLc2 wi g tt wi1 g1 tt1 te vs vs1 σ H Q := q
theorem w_lc2T {K : PySem.W.Frag} {g : TG} {tt : TT} {wi1 : TI} {g1 : TG} {tt1 : TT} {te : TE} {vs vs1 : List Nat} {σ : L2.St} {H : Hp} {Q : VK} {a : Addr} (xs : List V) (Pv : Addr → Nat → Hp → Prop) (hS : SqT K H a xs) (h0 : ∀ D, H D = none → Pv D 0 (upd H D (.lst []))) (hl : ∀ D i H, Pv D i H → SqT K H a xs)
    (hs : ∀ D i x H, xs[i]? = some x → Pv D i H → g x (wipe σ vs) H fun σ2 H2 => wipe σ2 vs = wipe σ vs ∧ tt σ2 H2 fun b H3 => if b = true then wi1 σ2 H3 (kIn2 g1 tt1 te vs1 σ2 D (Pv D (i + 1))) else Pv D (i + 1) H3)
    (hd : ∀ D H', H D = none → Pv D xs.length H' → Q (.ref D) H') : kIT K (kLc2 g tt wi1 g1 tt1 te vs vs1 σ Q) (.ref a) H := by
  refine ⟨a, rfl, ⟨_, hS⟩, fun D nD => ⟨fun i m H => m = xs.length - i ∧ i ≤ xs.length ∧ Pv D i H, ⟨xs.length, by simp, Nat.zero_le _, h0 D nD⟩, ?_⟩⟩
  rintro i m H' ⟨rfl, hi, p⟩
  rcases Nat.lt_or_ge i xs.length with lt | ge
  · refine .inr ⟨⟨xs, xs[i], hl D i H' p, by simp [lt]⟩, Pv D (i + 1), fun H2 p2 => ⟨xs.length - (i + 1), by omega, rfl, lt, p2⟩, fun v H2 y => ?_⟩
    obtain ⟨rfl, e⟩ : H2 = H' ∧ xs[i]? = some v := ⟨y.1, y.2 xs (hl D i H' p)⟩
    exact hs D i v _ e p
  · obtain rfl : i = xs.length := by omega
    exact .inl ⟨⟨xs, hl D _ H' p, Nat.le_refl _⟩, hd D H' nD p⟩
theorem w_in2T {K : PySem.W.Frag} {g1 : TG} {tt1 : TT} {te : TE} {vs1 : List Nat} {σ2 : L2.St} {D b : Addr} {Nx : Hp → Prop} {H : Hp} (ys : List V) (Pw : Nat → Hp → Prop) (hS : SqT K H b ys) (h0 : Pw 0 H) (hl : ∀ i H, Pw i H → SqT K H b ys)
    (hs : ∀ j y H, ys[j]? = some y → Pw j H → g1 y (wipe σ2 vs1) H fun σ3 H5 => wipe σ3 vs1 = wipe σ2 vs1 ∧ tt1 σ3 H5 fun b H6 =>
      if b = true then te σ3 H6 fun y H7 => ∃ acc, H7 D = some (.lst acc) ∧ acc.length < sizeLine ∧ Pw (j + 1) (upd H7 D (.lst (acc ++ [y]))) else Pw (j + 1) H6)
    (hd : ∀ H, Pw ys.length H → Nx H) : kIT K (kIn2 g1 tt1 te vs1 σ2 D Nx) (.ref b) H := by
  refine ⟨b, rfl, ⟨_, hS⟩, fun i m H => m = ys.length - i ∧ i ≤ ys.length ∧ Pw i H, ⟨ys.length, by simp, Nat.zero_le _, h0⟩, ?_⟩
  rintro i m H' ⟨rfl, hi, p⟩
  rcases Nat.lt_or_ge i ys.length with lt | ge
  · refine .inr ⟨⟨ys, ys[i], hl i H' p, by simp [lt]⟩, Pw (i + 1), fun H2 p2 => ⟨ys.length - (i + 1), by omega, rfl, lt, p2⟩, fun v H2 y => ?_⟩
    obtain ⟨rfl, e⟩ : H2 = H' ∧ ys[i]? = some v := ⟨y.1, y.2 ys (hl i H' p)⟩
    exact hs i v _ e p
  · obtain rfl : i = ys.length := by omega
    exact .inl ⟨⟨ys, hl _ H' p, Nat.le_refl _⟩, hd H' p⟩
theorem pi_tupK {X : Cx} {K' : PySem.W.Frag} {tg l : Expr} {tl : TE} (hK : X.K = K') (hl : PE X l tl) : PI X tg l (iTup K' tl) := by subst hK; exact pi_tup hl
theorem pi_listK {X : Cx} {K' : PySem.W.Frag} {tg l : Expr} {tl : TE} (hK : X.K = K') (hl : PE X l tl) : PI X tg l (iList K' tl) := by subst hK; exact pi_list hl
end Co

set_option Elab.async false
set_option linter.all false
set_option maxRecDepth 100000
set_option maxHeartbeats 4000000
namespace Co
open PySem PySem.Spec PyProof.Rows L2
/-! ### objects of a class: methods, fields, new ones -/
/-- the class with the names of its fields -/
structure Ob (K : PySem.W.Frag) (C : Addr) (fs : List Str) : Prop where
  cl : Cls K C
  na : ∀ f ∈ fs, NoAttr K C f
/-- the method m of C keeps a promise -/
structure Md (P : Program) (w : World) (K : PySem.W.Frag) (mg : Str → Option Value) (base : Heap) (k : Nat) (C : Addr) (m : Str) (sp : Sp) : Prop where
  ex : ∃ (f : Addr) (fd : FuncData) (ps : List Str), FnOk P w K mg base CX0 k f fd ps sp ∧ Meth K C m f ∧ Binds K fd ps []
def tMd (C : Addr) (m : Str) (sp : Sp) (ta : TE) (t : TA) : TE := fun σ H Q => ta σ H fun x H1 => ∃ a dx fs, x = .ref a ∧ H1 a = some (.ins C dx fs) ∧ fs.lookup m = none ∧ t σ H1 fun vs H2 => sp (x :: vs) H2 Q E0
section
variable {X : Cx} {k j : Nat} {m f : Str} {C : Addr} {sp : Sp} {apos pos p : Pos} {o e : Expr} {es : List Expr} {ta : TE} {t : TA}
theorem pe_md {pl : Sem Bool} (c : Cls X.K C) (d : Md X.prog X.w X.K X.mg X.base k C m sp) (hr : Room j X.A) (hk : k ≤ j) (ho : PE X o ta) (ha : PA X (e :: es) t)
    (hst : starEach (e :: es) X.env = (false, eval e X.env) :: starEach es X.env := by rfl) (hpl : (backTo pos (starEach es X.env)).any (·.1) = false := by rfl)
    (ht : eval (.Call (.Attribute o m apos) (e :: es) [] pos) X.env = (do
      let ov ← eval o X.env
      standAt apos.atName
      let (g, first) ← holding [ov] (getMethod ov m pl)
      callWith pos g first (backTo pos (starEach (e :: es) X.env)) (backToKw pos (keywordEach [] X.env))) := by rfl) :
    PE X (.Call (.Attribute o m apos) (e :: es) [] pos) (tMd C m sp ta t) := by
  obtain ⟨f, fd, ps, F, hm, b⟩ := d.ex
  have z := pe_meth (dvs := []) (E := E0) ho c hm F (hr.mono hk) b .nil pass0 ha hst hpl ht
  refine ⟨fun pins s σ H Q I h => z.run pins s σ H Q I ?_⟩
  refine (?_ : tMd C m sp ta t = tMeth C m sp [] E0 ta t) ▸ h
  unfold tMd tMeth
  simp only [List.append_nil]
theorem pe_md0 {pl : Sem Bool} (c : Cls X.K C) (d : Md X.prog X.w X.K X.mg X.base k C m sp) (hr : Room j X.A) (hk : k ≤ j) (ho : PE X o ta)
    (ht : eval (.Call (.Attribute o m apos) [] [] pos) X.env = (do
      let ov ← eval o X.env
      standAt apos.atName
      let (g, first) ← holding [ov] (getMethod ov m pl)
      callWith pos g first (backTo pos (starEach [] X.env)) (backToKw pos (keywordEach [] X.env))) := by rfl) :
    PE X (.Call (.Attribute o m apos) [] [] pos) (tMd C m sp ta tNil) := by
  obtain ⟨f, fd, ps, F, hm, b⟩ := d.ex
  exact pe_meth0 (dvs := []) (E := E0) ho c hm F (hr.mono hk) b .nil pass0 ht
end
/-- the class x makes objects -/
structure Mkr (P : Program) (w : World) (K : PySem.W.Frag) (mg : Str → Option Value) (base : Heap) (k : Nat) (x : Str) (C : Addr) (sp : Sp) : Prop where
  ex : ∃ (f : Addr) (fd : FuncData) (ps : List Str), FnOk P w K mg base CX0 k f fd ps sp ∧ Mk K C f ∧ Binds K fd ps [] ∧ mg x = some (.ref C)
def tMkr (C : Addr) (sp : Sp) (t : TA) : TE := fun σ H Q => t σ H fun vs H1 => ∀ x dx, H1 x = none → H1 dx = none → dx ≠ x → sp (.ref x :: vs) (upd (upd H1 dx (.own x)) x (.ins C dx [])) (fun v H2 => v = .non ∧ Q (.ref x) H2) E0
theorem pe_mkr {X : Cx} {k j : Nat} {x : Str} {C : Addr} {sp : Sp} {pos p : Pos} {e : Expr} {es : List Expr} {t : TA} (c : Mkr X.prog X.w X.K X.mg X.base k x C sp) (hr : Room j X.A) (hk : k + 1 ≤ j) (hg : Gl X x) (ha : PA X (e :: es) t)
    (hdb : (x == ("__debug__" : Str)) = false := by decide) (he : starEach (e :: es) X.env = (false, eval e X.env) :: starEach es X.env := by rfl) (hpl : (backTo pos (starEach es X.env)).any (·.1) = false := by rfl) :
    PE X (.Call (.Name x p) (e :: es) [] pos) (tMkr C sp t) := by
  obtain ⟨f, fd, ps, F, M, b, hm⟩ := c.ex
  have z := pe_make (dvs := []) (E := E0) (pos := pos) (p := p) M F (hr.mono hk) hg hm b .nil pass0 ha hdb he hpl
  refine ⟨fun pins s σ H Q I h => z.run pins s σ H Q I ?_⟩
  refine (?_ : tMkr C sp t = tMake C sp [] E0 t) ▸ h
  unfold tMkr tMake
  simp only [List.append_nil]
/-- a method that stands -/
structure StM (K : PySem.W.Frag) (C : Addr) (m qual : Str) (st : Stmt) (ps : List Str) : Prop where
  ex : ∃ f fd, Fun K m qual st f fd ∧ Binds K fd ps [] ∧ Meth K C m f
theorem StM.md {P : Program} {w : World} {K : PySem.W.Frag} {mg : Str → Option Value} {base : Heap} {C : Addr} {m qual : Str} {st : Stmt} {k : Nat} {N ps : List Str} {sp : Sp} (Z : StM K C m qual st ps) (S : FnScope N ps (defScope st)) (len : ∀ vs H Q E, sp vs H Q E → vs.length = ps.length)
    (hbody : ∀ (f : Addr) (cdv : Value) (A : Around) (outer : List Env) (s : Shared) (H : Hp) (vs : List V) (Q : VK) (E : XK), Room k (A.deeper (envOfC qual (defScope st) s.heap.objs.size f cdv)) → sp vs H Q E →
      ∃ t, PSs (cxOf CX0 P w K mg base N qual (defScope st) f cdv A outer s H E).nox (defBody st) t ∧ t { nx := fun _ H' => Q .non H', rt := Q } (start N vs) H) : Md P w K mg base (k + 1) C m sp := by
  obtain ⟨f, fd, F, b, hm⟩ := Z.ex
  exact ⟨⟨f, fd, ps, F.ok S len (hbody f), hm, b⟩⟩
theorem mkStM {K : PySem.W.Frag} {C : Addr} {m qual : Str} {st : Stmt} {ps : List Str} {f : Addr} {oc : Value} {od an : Option Addr} {osl : Array (Option Value)} {kV doc pm cdv ct : Value}
    (a : PySem.W.findIn K (.ref C) m = some (some (.ref f))) (i : PySem.W.isFn K (.ref f) = true) (l : K.lookup f = some ⟨oc, od, .func (PySem.W.fnOf m qual (defArgs st) (defBody st) (defScope st) .none kV doc pm an cdv ct), osl⟩) (c : PySem.W.codeIn K cdv qual = true) (k : PySem.W.keepIn K (.ref f) = true)
    (hb : ∀ (kV doc pm : Value) (an : Option Addr) (cdv ct : Value) (us : List Value), us.length = ps.length → bindArgs (PySem.W.fnOf m qual (defArgs st) (defBody st) (defScope st) .none kV doc pm an cdv ct) ⟨us, []⟩ = pure (ps.zip us)) : StM K C m qual st ps :=
  ⟨f, _, fun_mk (st := st) l c k, (fun_mk (st := st) l c k).binds hb, a, i, k⟩
/-- the standing __init__ of a class that makes objects -/
structure StI (K : PySem.W.Frag) (mg : Str → Option Value) (x : Str) (C : Addr) (qual : Str) (st : Stmt) (ps : List Str) : Prop where
  ex : ∃ f fd, Fun K "__init__" qual st f fd ∧ Binds K fd ps [] ∧ Mk K C f ∧ mg x = some (.ref C)
theorem StI.mkr {P : Program} {w : World} {K : PySem.W.Frag} {mg : Str → Option Value} {base : Heap} {x : Str} {C : Addr} {qual : Str} {st : Stmt} {k : Nat} {N ps : List Str} {sp : Sp} (Z : StI K mg x C qual st ps) (S : FnScope N ps (defScope st)) (len : ∀ vs H Q E, sp vs H Q E → vs.length = ps.length)
    (hbody : ∀ (f : Addr) (cdv : Value) (A : Around) (outer : List Env) (s : Shared) (H : Hp) (vs : List V) (Q : VK) (E : XK), Room k (A.deeper (envOfC qual (defScope st) s.heap.objs.size f cdv)) → sp vs H Q E →
      ∃ t, PSs (cxOf CX0 P w K mg base N qual (defScope st) f cdv A outer s H E).nox (defBody st) t ∧ t { nx := fun _ H' => Q .non H', rt := Q } (start N vs) H) : Mkr P w K mg base (k + 1) x C sp := by
  obtain ⟨f, fd, F, b, hm, hg⟩ := Z.ex
  exact ⟨⟨f, fd, ps, F.ok S len (hbody f), hm, b, hg⟩⟩
theorem mkStI {K : PySem.W.Frag} {mg : Str → Option Value} {x : Str} {C : Addr} {qual : Str} {st : Stmt} {ps : List Str} {f : Addr} {oc : Value} {od an : Option Addr} {osl : Array (Option Value)} {kV doc pm cdv ct : Value}
    (mx : mg x = some (.ref C)) (mk : PySem.W.makesIn K C = true) (kc : PySem.W.keepIn K (.ref C) = true)
    (a : PySem.W.findIn K (.ref C) "__init__" = some (some (.ref f))) (i : PySem.W.isFn K (.ref f) = true) (l : K.lookup f = some ⟨oc, od, .func (PySem.W.fnOf "__init__" qual (defArgs st) (defBody st) (defScope st) .none kV doc pm an cdv ct), osl⟩) (c : PySem.W.codeIn K cdv qual = true) (k : PySem.W.keepIn K (.ref f) = true)
    (hb : ∀ (kV doc pm : Value) (an : Option Addr) (cdv ct : Value) (us : List Value), us.length = ps.length → bindArgs (PySem.W.fnOf "__init__" qual (defArgs st) (defBody st) (defScope st) .none kV doc pm an cdv ct) ⟨us, []⟩ = pure (ps.zip us)) : StI K mg x C qual st ps :=
  ⟨f, _, fun_mk (st := st) l c k, (fun_mk (st := st) l c k).binds hb, ⟨mk, a, i, kc⟩, mx⟩
/-- a def that stands under another name -/
structure StA (K : PySem.W.Frag) (mg : Str → Option Value) (x q : Str) (st : Stmt) (ps : List Str) : Prop where
  ex : ∃ f fd, Fun K q q st f fd ∧ Binds K fd ps [] ∧ mg x = some (.ref f)
theorem StA.cd {P : Program} {w : World} {K : PySem.W.Frag} {mg : Str → Option Value} {base : Heap} {x q : Str} {st : Stmt} {k : Nat} {N ps : List Str} {sp : Sp} (Z : StA K mg x q st ps) (S : FnScope N ps (defScope st)) (len : ∀ vs H Q E, sp vs H Q E → vs.length = ps.length)
    (hbody : ∀ (f : Addr) (cdv : Value) (A : Around) (outer : List Env) (s : Shared) (H : Hp) (vs : List V) (Q : VK) (E : XK), Room k (A.deeper (envOfC q (defScope st) s.heap.objs.size f cdv)) → sp vs H Q E →
      ∃ t, PSs (cxOf CX0 P w K mg base N q (defScope st) f cdv A outer s H E).nox (defBody st) t ∧ t { nx := fun _ H' => Q .non H', rt := Q } (start N vs) H) : Cd P w K mg base (k + 1) x sp := by
  obtain ⟨f, fd, F, b, hm⟩ := Z.ex
  exact ⟨⟨f, fd, ps, F.ok S len (hbody f), hm, F.kp, b⟩⟩
theorem mkStA {K : PySem.W.Frag} {mg : Str → Option Value} {x q : Str} {st : Stmt} {ps : List Str} {h : Heap} {f : Addr} {oc : Value} {od an : Option Addr} {osl : Array (Option Value)} {kV doc pm cdv ct : Value} (X : K.In h) (G : h.Ns mainGlobals mg)
    (a : PySem.W.nsIn K mainGlobals x = some (some (.ref f))) (l : K.lookup f = some ⟨oc, od, .func (PySem.W.fnOf q q (defArgs st) (defBody st) (defScope st) .none kV doc pm an cdv ct), osl⟩) (c : PySem.W.codeIn K cdv q = true) (k : PySem.W.keepIn K (.ref f) = true)
    (hb : ∀ (kV doc pm : Value) (an : Option Addr) (cdv ct : Value) (us : List Value), us.length = ps.length → bindArgs (PySem.W.fnOf q q (defArgs st) (defBody st) (defScope st) .none kV doc pm an cdv ct) ⟨us, []⟩ = pure (ps.zip us)) : StA K mg x q st ps :=
  ⟨f, _, fun_mk (st := st) l c k, (fun_mk (st := st) l c k).binds hb, PySem.W.mg_of X G a⟩
/-! backward readings -/
def kFld (K : PySem.W.Frag) (f : Str) (Q : VK) : VK := fun x H1 => ∃ a C dx fs v, x = .ref a ∧ H1 a = some (.ins C dx fs) ∧ Cls K C ∧ NoAttr K C f ∧ fs.lookup f = some v ∧ Q v H1
def kFldS (K : PySem.W.Frag) (f : Str) (D : Ends) (σ : L2.St) (y : V) : VK := fun x H2 => ∃ a C dx fs, x = .ref a ∧ H2 a = some (.ins C dx fs) ∧ Cls K C ∧ NoAttr K C f ∧ fs.length < 1000 ∧ D.nx σ (upd H2 a (.ins C dx (putF f y fs)))
def kMd (C : Addr) (m : Str) (t : TA) (σ : L2.St) (k : V → List V → Hp → Prop) : VK := fun x H1 => ∃ a dx fs, x = .ref a ∧ H1 a = some (.ins C dx fs) ∧ fs.lookup m = none ∧ t σ H1 fun vs H2 => k x vs H2
section
variable {K : PySem.W.Frag} {σ : L2.St} {H : Hp} {Q : VK} {D : Ends} {ta tv : TE} {t : TA} {f m : Str} {C a dx : Addr} {fs : List (Str × V)} {F : List Str} {v y : V} {sp : Sp}
theorem w_fld (q : ta σ H (kFld K f Q)) : tFld K ta f σ H Q := q
theorem w_kFld (T : Ob K C F) (h : H a = some (.ins C dx fs)) (hf : f ∈ F) (l : fs.lookup f = some v) (q : Q v H) : kFld K f Q (.ref a) H := ⟨a, C, dx, fs, v, rfl, h, T.cl, T.na f hf, l, q⟩
theorem w_fldS (q : tv σ H fun y H1 => ta σ H1 (kFldS K f D σ y)) : sFld K ta tv f D σ H := q
theorem w_kFldS {fs' : List (Str × V)} (T : Ob K C F) (h : H a = some (.ins C dx fs)) (hf : f ∈ F) (hl : fs.length < 1000) (e : putF f y fs = fs') (q : ∀ H', H' a = some (.ins C dx fs') → But a H H' → D.nx σ H') : kFldS K f D σ y (.ref a) H :=
  ⟨a, C, dx, fs, rfl, h, T.cl, T.na f hf, hl, q _ (by rw [e]; exact upd_same) But.set⟩
theorem w_md (q : ta σ H (kMd C m t σ fun x vs H2 => sp (x :: vs) H2 Q E0)) : tMd C m sp ta t σ H Q := q
theorem w_kMd {k : V → List V → Hp → Prop} (h : H a = some (.ins C dx fs)) (l : fs.lookup m = none) (q : t σ H fun vs H2 => k (.ref a) vs H2) : kMd C m t σ k (.ref a) H := ⟨a, dx, fs, rfl, h, l, q⟩
def kMkr (C : Addr) (sp : Sp) (Q : VK) : List V → Hp → Prop := fun vs H1 => ∀ x dx, H1 x = none → H1 dx = none → dx ≠ x → sp (.ref x :: vs) (upd (upd H1 dx (.own x)) x (.ins C dx [])) (fun v H2 => v = .non ∧ Q (.ref x) H2) E0
theorem w_mkr (q : t σ H (kMkr C sp Q)) : tMkr C sp t σ H Q := q
def kFldA (K : PySem.W.Frag) (f : Str) (tv : TE) (rd : V → V → Hp → VK → Prop) (D : Ends) (σ : L2.St) : VK := fun x H1 => ∃ a C dx fs v, x = .ref a ∧ H1 a = some (.ins C dx fs) ∧ Cls K C ∧ NoAttr K C f ∧ fs.lookup f = some v ∧
  tv σ H1 fun y H2 => rd v y H2 fun z H3 => ∃ dx' fs', H3 a = some (.ins C dx' fs') ∧ fs'.length < 1000 ∧ D.nx σ (upd H3 a (.ins C dx' (putF f z fs')))
theorem w_fldA {rd : V → V → Hp → VK → Prop} (q : ta σ H (kFldA K f tv rd D σ)) : sFldAug K ta tv rd f D σ H := q
end
end Co

set_option Elab.async false
set_option linter.all false
set_option maxRecDepth 100000
set_option maxHeartbeats 4000000
namespace Co
open PySem PySem.Spec PyProof.Rows GenW L2
/-! ### a for loop in a generator -/
section
variable {M : Model} {A : Around} {R : GenEnd} {Y : Protocol} {n : Nat} {s₀ s : Shared} {c : Code} {fs : List Frame} {env : Env} {K : Flow → Sem PySem.Fin} {H : Value → Sem PySem.Fin} {gd : Bool → Bool} {lv : List Value → List Value}
theorem seg_holding {α : Type} {vs : List Value} {m : Sem α} {K : α → Sem PySem.Fin}
    (h : wpAny M (A.over c fs) m (fun a s' => Seg M A R Y n s₀ c (K a) fs s') (fun x s' => Seg M A R Y n s₀ c (H x) fs s') s) :
    Seg M A R Y n s₀ c ((holding vs m).wrap K H gd lv) fs s := seg_wrap (wpAny_holding h)
theorem seg_ForG {tg iter : Expr} {body orelse : List Stmt} {pos : Pos}
    (h : wpAny M (A.over c fs) (eval iter env) (fun x s1 => wpAny M (A.over c fs) (pyIter x) (fun it s2 => ∀ p, Seg M A R Y n s₀ (.forLoop tg it body orelse env) (M.den (.forLoop tg it body orelse env))
      (.ret (fun r => ((match r with | .ok f => (.pure f : Sem Flow) | .error e => .raise e).onRaise (cameBack env)).wrap K H gd lv) none (gd false) (lv []) c p [] :: fs) s2)
      (fun x s' => Seg M A R Y n s₀ c (H x) fs s') s1) (fun x s' => Seg M A R Y n s₀ c (H x) fs s') s)
    (hs : ∀ x, foldedSetIterable iter env x = pure x) : Seg M A R Y n s₀ c ((exec (.For tg iter body orelse pos) env).wrap K H gd lv) fs s := by
  rw [exec_For]
  refine seg_bind_wrap (wpAny_standAt ?_)
  refine seg_bind_wrap (wpAny_mono h (fun x s1 h1 => ?_) fun x s' hx => hx)
  refine seg_bind_wrap (wpAny_of_eq (hs x) ?_)
  refine seg_bind_wrap (wpAny_standAt ?_)
  refine seg_bind_wrap (wpAny_holding (wpAny_mono h1 (fun it s2 h2 => ?_) fun x s' hx => hx))
  exact seg_call h2
/-- what an exception does that leaves the turn -/
abbrev outE (env : Env) : Value → Sem PySem.Fin := fun e => (do noteFrame e env; theTreesLotGoes e : Sem Unit).wrap (fun _ => .raise e) .raise id id
end
section
variable {prog : Program} {w : World} {A : Around} {R : GenEnd} {Y : Protocol} {n : Nat} {s₀ : Shared} {fs : List Frame} {s : Shared} {env : Env}
theorem seg_forLoopG {tg : Expr} {it : Value} {body orelse : List Stmt}
    (h : wpAny (model prog w) (A.over (.forLoop tg it body orelse env) fs) (pyNext it) (fun r s1 => match r with
        | none => Seg (model prog w) A R Y n s₀ (.forLoop tg it body orelse env) (.pure (.again (.block orelse env))) fs s1
        | some v => wpAny (model prog w) (A.over (.forLoop tg it body orelse env) fs) (letOwnedTupleGo tg it v) (fun _ s2 => wpAny (model prog w) (A.over (.forLoop tg it body orelse env) fs) (assign tg env v) (fun _ s3 =>
            Seg (model prog w) A R Y n s₀ (.forLoop tg it body orelse env) ((execs body env).wrap (fun f => match f with
              | .next | .cont => .pure (.again (.forLoop tg it body orelse env))
              | .brk => .pure (.done .next)
              | .ret v => .pure (.done (.ret v))) (outE env) id id) fs s3)
            (fun x s' => Seg (model prog w) A R Y n s₀ (.forLoop tg it body orelse env) (outE env x) fs s') s2)
            (fun x s' => Seg (model prog w) A R Y n s₀ (.forLoop tg it body orelse env) (outE env x) fs s') s1)
      (fun x s' => Seg (model prog w) A R Y n s₀ (.forLoop tg it body orelse env) (outE env x) fs s') s) :
    Seg (model prog w) A R Y n s₀ (.forLoop tg it body orelse env) ((model prog w).den (.forLoop tg it body orelse env)) fs s := by
  show Seg _ A R Y n s₀ _ ((forTurn tg it body orelse env).onRaise (fun x => do noteFrame x env; theTreesLotGoes x)) fs s
  have eo : ∀ x : Value, ((do noteFrame x env; theTreesLotGoes x : Sem Unit).bind fun _ => (Sem.raise x : Sem PySem.Fin)) = outE env x := fun x => Sem.bind_eq_wrap _ _
  rw [Sem.onRaise_eq_wrap]
  unfold forTurn
  refine seg_bind_wrap (wpAny_standAt ?_)
  refine seg_bind_wrap (wpAny_onRaise (wpAny_mono h (fun r s1 h1 => ?_) fun x s' hx => wpAny_standAt ?_))
  · cases r with
    | none =>
      exact h1
    | some v =>
      refine seg_bind_wrap (wpAny_mono h1 (fun _ s2 h2 => ?_) fun x s' hx => ?_)
      · refine seg_bind_wrap (wpAny_mono h2 (fun _ s3 h3 => ?_) fun x s' hx => ?_)
        · rw [Sem.bind_eq_wrap', Sem.wrap_wrap]
          rw [Sem.wrap_congr (execs body env) _ _ (K' := fun f => match f with
            | .next | .cont => .pure (.again (.forLoop tg it body orelse env))
            | .brk => .pure (.done .next)
            | .ret v => .pure (.done (.ret v))) (H' := outE env)
            (fun f => by cases f <;> rfl)
            (fun e => by first | exact eo e | (show ((do noteFrame e env; theTreesLotGoes e : Sem Unit).bind fun _ => (Sem.raise e : Sem PySem.Fin)) = _; exact eo e))]
          exact h3
        · rw [← eo] at hx; exact hx
      · rw [← eo] at hx; exact hx
  · rw [← eo] at hx; exact hx
/-- the end of the loop: its else, which is empty -/
theorem seg_blockNil {tgE : List Stmt} (he : tgE = []) {c : Code} (h : Seg (model prog w) A R Y n s₀ (.block [] env) (leafOf (.ok .next)) fs s) : Seg (model prog w) A R Y n s₀ c (.pure (.again (.block tgE env))) fs s := by
  subst he
  refine seg_again rfl ?_
  exact h
end
/-- W: the invariant by the turn, a measure, and what is out -/
def tGFor (wi : TI) (g : TG) (tb : TGn) : TGn := fun D ys σ H => wi σ H fun J H1 => ∃ W : Nat → Nat → List V → L2.St → Hp → Prop, (∃ m, W 0 m ys σ H1) ∧ ∀ i m ys σ H, W i m ys σ H →
  (J.stop i H ∧ D.nx ys σ H) ∨ (J.go i H ∧ ∃ N : List V → L2.St → Hp → Prop, (∀ ys' σ' H', N ys' σ' H' → ∃ m', m' < m ∧ W (i + 1) m' ys' σ' H') ∧ ∀ x H', J.yld i H x H' → g x σ H' fun σ2 H2 => tb { D with nx := N, ct := N, bk := D.nx } ys σ2 H2)
theorem gs_for {X : Cx} {tg iter : Expr} {body : List Stmt} {wi : TI} {g : TG} {tb : TGn} {pos : Pos} (hp : PassesOwn (model X.prog X.w) X.A X.env X.xe) (hc : X.calm = true) (hi : PI X tg iter wi) (hg : PG X tg g) (hb : GSs X body tb)
    (hs : ∀ x, foldedSetIterable iter X.env x = pure x := by intro _; rfl) : GS X (.For tg iter body [] pos) (tGFor wi g tb) := by
  refine ⟨fun A S ip R n ys s₀ c fs K J gd lv s σ H D gc hn k hI ht => ?_⟩
  refine seg_ForG ?_ hs
  rw [gc.over]
  obtain ⟨acc, cc, r, I⟩ := hI
  refine wpAny_mono (hi.run _ s σ H _ I ht) (fun v s1 h1 => wpAny_mono h1 (fun itv s2 h2 p => ?_) fun x s' hx => k.exc n s₀ x s' hx) fun x s' hx => k.exc n s₀ x s' hx
  obtain ⟨it, fp, tn, J', H2, e, I2, T, st2, f2, W, ⟨m0, w0⟩, turn⟩ := h2
  subst e
  have gl := fun (kk : Result → Sem PySem.Fin) => gc_loop (k := kk) (c' := .forLoop tg (.ref it) body [] X.env) (l := lv []) (kp := []) (p := p) gc rfl rfl
  have stat : ∀ {acc' : Array Value} {c' : Nat} {H' : Hp}, (∀ b ∈ fp, H' b = none) → ∀ b ∈ fp, FpOk X ((S, lstObj acc' c') :: ip) H' b := fun {acc' c' H'} hn b hb => by
    obtain ⟨_, g1, g2, g3, g4, g5⟩ := f2 b hb
    refine ⟨hn b hb, g1, g2, g3, g4, fun q hq => ?_⟩
    rcases List.mem_append.mp hq with hq | hq
    · exact g5 q (List.mem_append_left _ hq)
    · rcases List.mem_cons.mp hq with rfl | hq
      · exact g5 (S, lstObj acc cc) (List.mem_append_right _ List.mem_cons_self)
      · exact g5 q (List.mem_append_right _ (List.mem_cons_of_mem _ hq))
  have nS : ∀ b ∈ fp, b ≠ S := fun b hb => ((f2 b hb).2.2.2.2.2 (S, lstObj acc cc) (List.mem_append_right _ List.mem_cons_self)).symm
  have loop : ∀ (m i n : Nat) (ys : List V) (s₀ s : Shared) (σ : L2.St) (H : Hp), n + ys.length = sizeLine → W i m ys σ H → GI X S ip ys σ H s → tn i s.heap → (∀ b ∈ fp, H b = none) →
      Seg (model X.prog X.w) A R (GY X S) n s₀ (.forLoop tg (.ref it) body [] X.env) ((model X.prog X.w).den (.forLoop tg (.ref it) body [] X.env))
        (.ret (fun r => ((match r with | .ok f => (.pure f : Sem Flow) | .error e => .raise e).onRaise (cameBack X.env)).wrap K J gd lv) none (gd false) (lv []) c p [] :: fs) s := by
    intro m
    induction m using Nat.strongRecOn with
    | ind m ih =>
      intro i n ys s₀ s σ H hn w hI st fr
      have ee : ∀ (n : Nat) (s₀ : Shared) (x : Value) (s' : Shared), X.xe x s' → Seg (model X.prog X.w) A R (GY X S) n s₀ (.forLoop tg (.ref it) body [] X.env) (outE X.env x)
          (.ret (fun r => ((match r with | .ok f => (.pure f : Sem Flow) | .error e => .raise e).onRaise (cameBack X.env)).wrap K J gd lv) none (gd false) (lv []) c p [] :: fs) s' := fun n s₀ x s' hx => by
        refine seg_wrap ?_
        rw [(gl _).over]
        refine wpAny_bind (wpAny_mono (hp x s' hx) (fun _ s'' hcb => wpAny_theTreesLotGoes ?_) fun y s'' hcb => ?_)
        · exact seg_leaf (.error x) (seg_cameBack gc k hcb)
        · exact seg_leaf (.error y) (seg_cameBack gc k hcb)
      refine seg_forLoopG ?_
      rw [(gl _).over]
      obtain ⟨acc, cc, r, I⟩ := hI
      rcases turn i m ys σ H w with ⟨stop, qn⟩ | ⟨go, N, hN, step⟩
      · refine wpAny_mono (T.done X rfl rfl rfl hc i _ s σ H X.xe I (stat fr) st stop) (fun r' s4 h4 => ?_) fun x s' hx => ee n s₀ x s' hx
        obtain ⟨hr, I4⟩ := h4
        subst hr
        exact seg_blockNil rfl (seg_leaf (.ok .next) (k.ok n ys s₀ s4 .next hn ⟨σ, H, ⟨acc, cc, r, I4⟩, qn⟩))
      · refine wpAny_mono (T.item X rfl rfl rfl hc i _ s σ H X.xe I (stat fr) st go) (fun r' s4 h4 => ?_) fun x s' hx => ee n s₀ x s' hx
        obtain ⟨u, hr, h4⟩ := h4
        subst hr
        refine wpAny_mono h4 (fun _ s5 h5 => ?_) fun x s' hx => ee n s₀ x s' hx
        obtain ⟨x, H5, I5, r5, y5, st5, fr5⟩ := h5
        have I5' := I5.pinned (stat fr5) (T.obj _ _ st5)
        refine wpAny_mono (hg.run _ s5 σ H5 x u _ I5' r5 (step x H5 y5)) (fun _ s6 h6 => ?_) fun x s' hx => ee n s₀ x s' hx
        obtain ⟨σ6, H6, I6, q6⟩ := h6
        have gb : GC X S (ip ++ pinsAt fp s5.heap) A (.forLoop tg (.ref it) body [] X.env) (.ret (fun r => ((match r with | .ok f => (.pure f : Sem Flow) | .error e => .raise e).onRaise (cameBack X.env)).wrap K J gd lv) none (gd false) (lv []) c p [] :: fs) id :=
          { gl _ with ip := fun q hq => (by
              rcases List.mem_append.mp hq with hq | hq
              · exact gc.ip q hq
              · exact nS _ (of_pinsAt hq).1) }
        have unp : ∀ {ys' : List V} {σ' : L2.St} {H' : Hp} {s' : Shared}, GI X S (ip ++ pinsAt fp s5.heap) ys' σ' H' s' → GI X S ip ys' σ' H' s' ∧ tn (i + 1) s'.heap ∧ ∀ b ∈ fp, H' b = none := fun {ys' σ' H' s'} h => by
          obtain ⟨a', c', r', I'⟩ := h
          have I2' : Inv X (((S, lstObj a' c') :: ip) ++ pinsAt fp s5.heap) σ' H' s' := I'
          refine ⟨⟨a', c', r', I2'.unpinned⟩, T.keep _ _ _ st5 fun b hb o e => (I2'.pin (b, o) (List.mem_append_right _ (List.mem_append_right _ (mem_pinsAt hb e)))).1, fun b hb => ?_⟩
          obtain ⟨o, e, d⟩ := T.obj _ _ st5 b hb
          exact (I2'.pin (b, o) (List.mem_append_right _ (List.mem_append_right _ (mem_pinsAt hb e)))).2.1
        refine hb.run A S (ip ++ pinsAt fp s5.heap) R n ys s₀ _ _ _ _ id id s6 σ6 H6 { D with nx := N, ct := N, bk := D.nx } gb hn ⟨fun n' ys' s₀' s7 f hn' hs => ?_, fun n' s₀' x s7 hx => ee n' s₀' x s7 hx⟩ ⟨acc, cc, r, I6⟩ q6
        cases f with
        | next =>
          obtain ⟨σ7, H7, I7, n7⟩ := hs
          obtain ⟨m', hm, w7⟩ := hN ys' σ7 H7 n7
          obtain ⟨g7, t7, f7⟩ := unp I7
          exact seg_again rfl (ih m' hm (i + 1) n' ys' s₀' s7 σ7 H7 hn' w7 g7 t7 f7)
        | cont =>
          obtain ⟨σ7, H7, I7, n7⟩ := hs
          obtain ⟨m', hm, w7⟩ := hN ys' σ7 H7 n7
          obtain ⟨g7, t7, f7⟩ := unp I7
          exact seg_again rfl (ih m' hm (i + 1) n' ys' s₀' s7 σ7 H7 hn' w7 g7 t7 f7)
        | brk =>
          obtain ⟨σ7, H7, I7, n7⟩ := hs
          exact seg_leaf (.ok .next) (k.ok n' ys' s₀' s7 .next hn' ⟨σ7, H7, (unp I7).1, n7⟩)
        | ret v =>
          obtain ⟨v7, σ7, H7, I7, r7, n7⟩ := hs
          exact seg_leaf (.ok (.ret v)) (k.ok n' ys' s₀' s7 (.ret v) hn' ⟨v7, σ7, H7, (unp I7).1, r7, n7⟩)
  exact loop m0 0 n ys s₀ s2 σ H2 hn w0 ⟨acc, cc, r, I2⟩ st2 fun b hb => (f2 b hb).1
end Co

set_option Elab.async false
set_option linter.all false
set_option maxRecDepth 100000
set_option maxHeartbeats 4000000
namespace Co
open PySem PySem.Spec PyProof.Rows GenW L2
/-! ### calls by name, of defs and of generator defs -/
abbrev kvE (ks : List Str) : Prop := True
structure CdK (P : Program) (w : World) (K : PySem.W.Frag) (mg : Str → Option Value) (base : Heap) (k : Nat) (x : Str) (n : Nat) (ks : List Str) (sp : Sp) : Prop where
  ex : ∃ (f : Addr) (fd : FuncData) (ps : List Str), FnOk P w K mg base CX0 k f fd ps sp ∧ mg x = some (.ref f) ∧ PySem.W.keepIn K (.ref f) = true ∧ KBn K fd ps n ks (fun us ws => us ++ ws) (fun vs zs => vs ++ zs)
structure GCdK (P : Program) (w : World) (K : PySem.W.Frag) (mg : Str → Option Value) (base : Heap) (k : Nat) (x : Str) (n : Nat) (ks : List Str) (sp : SpG) : Prop where
  ex : ∃ (f : Addr) (fd : FuncData) (ps : List Str), GFn P w K mg base k f fd ps sp ∧ mg x = some (.ref f) ∧ PySem.W.keepIn K (.ref f) = true ∧ KBn K fd ps n ks (fun us ws => us ++ ws) (fun vs zs => vs ++ zs)
def tCK (n m : Nat) (sp : Sp) (t tk : TA) : TE := fun σ H Q => t σ H fun vs H1 => tk σ H1 fun zs H2 => vs.length = n ∧ zs.length = m ∧ sp (vs ++ zs) H2 Q E0
def tGK (n m : Nat) (sp : SpG) (t tk : TA) : TGen := fun σ H cont => t σ H fun vs H1 => tk σ H1 fun zs H2 => vs.length = n ∧ zs.length = m ∧ sp (vs ++ zs) H2 cont E0
section
variable {X : Cx} {k j n : Nat} {x : Str} {ks : List Str} {p pos : Pos} {e : Expr} {es : List Expr} {kws : List Keyword} {t tk : TA}
theorem pe_cdK {sp : Sp} (c : CdK X.prog X.w X.K X.mg X.base k x n ks sp) (hr : Room j X.A) (hk : k ≤ j) (hg : Gl X x) (ha : PA X (e :: es) t) (hkw : PK X kws tk)
    (hall : (backToKw pos (keywordEach kws X.env)).all (·.1.isSome) = true := by rfl) (hks : (backToKw pos (keywordEach kws X.env)).filterMap (·.1) = ks := by rfl)
    (hdb : (x == ("__debug__" : Str)) = false := by decide) (he : starEach (e :: es) X.env = (false, eval e X.env) :: starEach es X.env := by rfl)
    (hpl : ((backTo pos (starEach (e :: es) X.env)).any (·.1) || (backToKw pos (keywordEach kws X.env)).any (·.1.isNone)) = false := by rfl) :
    PE X (.Call (.Name x p) (e :: es) kws pos) (tCK n ks.length sp t tk) := by
  obtain ⟨f, fd, ps, F, hm, kp, b⟩ := c.ex
  exact pe_callN (E := E0) F (hr.mono hk) hg hm kp b pass0 ha hkw hall hks hdb he hpl
theorem run_gfnK {f : Addr} {fd : FuncData} {ps : List Str} {sp : SpG} {pins : List (Addr × Obj)} {σ : L2.St} {H : Hp} {s : Shared} {us ws : List Value} {vs zs : List V} {cont : List V → Hp → Prop} {E : XK} {E1 : Value → Shared → Prop} (F : GFn X.prog X.w X.K X.mg X.base k f fd ps sp) (hr : Room k X.A)
    (hb : KBn X.K fd ps n ks (fun us ws => us ++ ws) (fun vs zs => vs ++ zs)) (I : Inv X pins σ H s) (r : Vals vs us) (rz : Vals zs ws) (l1 : vs.length = n) (l2 : zs.length = ks.length) (h : sp (vs ++ zs) H cont E) :
    wpAny (model X.prog X.w) X.A (call (.ref f) us (ks.zip ws)) (fun u s' => ∃ H1 sc ex, Inv X pins σ H1 sc ∧ ExOk X pins ex ∧ GMade X.prog X.w k X.stack H1 sc ex cont E u s') E1 s := by
  refine wpAny_call (codeAny_mono (F.run X.A X.stack s H ⟨us, ks.zip ws⟩ (us ++ ws) (vs ++ zs) cont E hr I.env0 (hb.to s us ws I.kIn (r.length.symm.trans l1) (rz.length.symm.trans l2)) (hb.rel r rz) h) fun r s' hq => ?_)
  cases r with
  | error e => exact False.elim hq
  | ok fl =>
    cases fl with
    | ret u => exact ⟨H, s, [], I, .nil, hq⟩
    | next => exact False.elim hq
    | brk => exact False.elim hq
    | cont => exact False.elim hq
theorem pgen_cdK {sp : SpG} (c : GCdK X.prog X.w X.K X.mg X.base k x n ks sp) (hr : Room k X.A) (hg : Gl X x) (ha : PA X (e :: es) t) (hkw : PK X kws tk)
    (hall : (backToKw pos (keywordEach kws X.env)).all (·.1.isSome) = true := by rfl) (hks : (backToKw pos (keywordEach kws X.env)).filterMap (·.1) = ks := by rfl)
    (hdb : (x == ("__debug__" : Str)) = false := by decide) (he : starEach (e :: es) X.env = (false, eval e X.env) :: starEach es X.env := by rfl)
    (hpl : ((backTo pos (starEach (e :: es) X.env)).any (·.1) || (backToKw pos (keywordEach kws X.env)).any (·.1.isNone)) = false := by rfl) :
    PGen X k (.Call (.Name x p) (e :: es) kws pos) (tGK n ks.length sp t tk) E0 := by
  obtain ⟨f, fd, ps, F, hm, kp, b⟩ := c.ex
  refine ⟨fun pins s σ H cont I h => ?_⟩
  refine wpAny_Call_Name_kw (ld_glob I hg hm ?_ hdb)
  refine PySem.W.callWith_KW (h₀ := X.base) I.ok.mod.kin kp hall (thn (ha.run pos pins s σ H _ I h) fun us s1 ⟨vs, H1, I1, r, q⟩ => ?_) hpl he
  refine thn (hkw.run pos pins s1 σ H1 _ I1 q) fun ws s2 ⟨zs, H2, I2, rz, l1, l2, q2⟩ => ⟨I2.kIn, ?_⟩
  rw [hks]
  exact run_gfnK F hr b I2 r rz l1 l2 q2
theorem passE0 : Passes (CX X.prog X.w) X E0 := fun pins σ H s e s' I h => by
  obtain ⟨a, B, H', cls, d, _, _, _, _, _, _, _, w⟩ := h
  exact w.elim
theorem noStopE0 {K : PySem.W.Frag} : NoStop K E0 := fun cls d H h => h.elim
end
/-- a def with keyword-only parameters that stands -/
structure StK (K : PySem.W.Frag) (mg : Str → Option Value) (x : Str) (st : Stmt) (ps : List Str) (n : Nat) (ks : List Str) : Prop where
  ex : ∃ f fd, Fun K x x st f fd ∧ KBn K fd ps n ks (fun us ws => us ++ ws) (fun vs zs => vs ++ zs) ∧ mg x = some (.ref f)
theorem StK.cd {P : Program} {w : World} {K : PySem.W.Frag} {mg : Str → Option Value} {base : Heap} {x : Str} {st : Stmt} {k n : Nat} {ks N ps : List Str} {sp : Sp} (Z : StK K mg x st ps n ks) (S : FnScope N ps (defScope st)) (len : ∀ vs H Q E, sp vs H Q E → vs.length = ps.length)
    (hbody : ∀ (f : Addr) (cdv : Value) (A : Around) (outer : List Env) (s : Shared) (H : Hp) (vs : List V) (Q : VK) (E : XK), Room k (A.deeper (envOfC x (defScope st) s.heap.objs.size f cdv)) → sp vs H Q E →
      ∃ t, PSs (cxOf CX0 P w K mg base N x (defScope st) f cdv A outer s H E).nox (defBody st) t ∧ t { nx := fun _ H' => Q .non H', rt := Q } (start N vs) H) : CdK P w K mg base (k + 1) x n ks sp := by
  obtain ⟨f, fd, F, b, hm⟩ := Z.ex
  exact ⟨⟨f, fd, ps, F.ok S len (hbody f), hm, F.kp, b⟩⟩
theorem StK.gcd {P : Program} {w : World} {K : PySem.W.Frag} {mg : Str → Option Value} {base : Heap} {x : Str} {st : Stmt} {k n : Nat} {ks N ps : List Str} {sp : SpG} (Z : StK K mg x st ps n ks) (S : GScope N ps (defScope st)) (len : ∀ vs H Q E, sp vs H Q E → vs.length = ps.length)
    (hbody : ∀ (f : Addr) (cdv : Value) (A : Around) (outer : List Env) (s : Shared) (H : Hp) (vs : List V) (Q : List V → Hp → Prop) (E : XK) (pn : List (Addr × Obj)), Room k (A.deeper (envOfC x (defScope st) s.heap.objs.size f cdv)) → sp vs H Q E →
      ∃ t, GSs (gcxOf P w K mg base N x (defScope st) f cdv A outer s H E pn) (defBody st) t ∧ t { nx := fun ys _ H' => Q ys H', rt := fun ys v H' => v = .non ∧ Q ys H' } [] (start N vs) H) : GCdK P w K mg base (k + 1) x n ks sp := by
  obtain ⟨f, fd, F, b, hm⟩ := Z.ex
  obtain ⟨oc, od, kV, doc, pm, an, cdv, ct, osl, rfl, lk, hcd⟩ := F.ex
  exact ⟨⟨f, _, ps, gfn_of lk hcd S len (hbody f cdv), hm, F.kp, b⟩⟩
theorem mkStK {K : PySem.W.Frag} {mg : Str → Option Value} {x : Str} {st : Stmt} {ps ks : List Str} {n : Nat} {h : Heap} {f : Addr} {oc : Value} {od an : Option Addr} {osl : Array (Option Value)} {kV doc pm cdv ct : Value} (X : K.In h) (G : h.Ns mainGlobals mg)
    (a : PySem.W.nsIn K mainGlobals x = some (some (.ref f))) (l : K.lookup f = some ⟨oc, od, .func (PySem.W.fnOf x x (defArgs st) (defBody st) (defScope st) .none kV doc pm an cdv ct), osl⟩) (c : PySem.W.codeIn K cdv x = true) (k : PySem.W.keepIn K (.ref f) = true)
    (hb : ∀ (kV doc pm : Value) (an : Option Addr) (cdv ct : Value) (us ws : List Value), us.length = n → ws.length = ks.length → bindArgs (PySem.W.fnOf x x (defArgs st) (defBody st) (defScope st) .none kV doc pm an cdv ct) ⟨us, ks.zip ws⟩ = pure (ps.zip (us ++ ws))) : StK K mg x st ps n ks :=
  ⟨f, _, fun_mk (st := st) l c k, ⟨fun s us ws _ h1 h2 => .of_eq (hb kV doc pm an cdv ct us ws h1 h2), fun r rz => r.append rz⟩, PySem.W.mg_of X G a⟩
/-! readings -/
theorem w_cK {n m : Nat} {sp : Sp} {t tk : TA} {σ : L2.St} {H : Hp} {Q : VK} (q : t σ H fun vs H1 => tk σ H1 fun zs H2 => vs.length = n ∧ zs.length = m ∧ sp (vs ++ zs) H2 Q E0) : tCK n m sp t tk σ H Q := q
theorem w_gK {n m : Nat} {sp : SpG} {t tk : TA} {σ : L2.St} {H : Hp} {Q : List V → Hp → Prop} (q : t σ H fun vs H1 => tk σ H1 fun zs H2 => vs.length = n ∧ zs.length = m ∧ sp (vs ++ zs) H2 Q E0) : tGK n m sp t tk σ H Q := q
theorem w_listG {tg : TGen} {σ : L2.St} {H : Hp} {Q : VK} (q : tg σ H fun out H2 => ∀ p, H2 p = none → Q (.ref p) (upd H2 p (.lst out))) : tListG tg σ H Q := q
section
variable {D : GEnds} {ys : List V} {σ : L2.St} {H : Hp} {t u : TGn} {tp : TS} {te : TE}
theorem w_gThen (q : t { D with nx := fun ys' σ' H' => u D ys' σ' H' } ys σ H) : tGThen t u D ys σ H := q
theorem w_gPlain (q : tp { nx := D.nx ys, rt := D.rt ys, bk := D.bk ys, ct := D.ct ys } σ H) : tPlain tp D ys σ H := q
theorem w_g0 (q : D.nx ys σ H) : tG0 D ys σ H := q
theorem w_gYield (h : ys.length < sizeLine) (q : te σ H fun x H1 => D.nx (ys ++ [x]) σ H1) : tGYield te D ys σ H := ⟨h, q⟩
end
end Co
namespace Co
open PySem PySem.Spec PyProof.Rows GenW L2
section
variable {wi : TI} {g : TG} {tb : TGn} {D : GEnds} {ys : List V} {σ : L2.St} {H : Hp}
def kForG (g : TG) (tb : TGn) (D : GEnds) (ys : List V) (σ : L2.St) : It → Hp → Prop := fun J H1 => ∃ W : Nat → Nat → List V → L2.St → Hp → Prop, (∃ m, W 0 m ys σ H1) ∧ ∀ i m ys σ H, W i m ys σ H →
  (J.stop i H ∧ D.nx ys σ H) ∨ (J.go i H ∧ ∃ N : List V → L2.St → Hp → Prop, (∀ ys' σ' H', N ys' σ' H' → ∃ m', m' < m ∧ W (i + 1) m' ys' σ' H') ∧ ∀ x H', J.yld i H x H' → g x σ H' fun σ2 H2 => tb { D with nx := N, ct := N, bk := D.nx } ys σ2 H2)
theorem w_forG (q : wi σ H (kForG g tb D ys σ)) : tGFor wi g tb D ys σ H := q
theorem w_forGR {j : Int} (n : Nat) (Pv : Nat → List V → L2.St → Hp → Prop) (hn : j.toNat = n) (hj : n < 4611686018427387904 ∧ -4611686018427387904 ≤ j) (h0 : Pv 0 ys σ H)
    (hs : ∀ i ys σ H, i < n → Pv i ys σ H → g (.int (i : Int)) σ H fun σ2 H2 => tb { D with nx := Pv (i + 1), ct := Pv (i + 1), bk := D.nx } ys σ2 H2) (hd : ∀ ys σ H, Pv n ys σ H → D.nx ys σ H) : kR1 (kForG g tb D ys σ) [.int j] H := by
  refine ⟨j, rfl, by show -4611686018427387904 ≤ j; omega, by show j < 4611686018427387904; omega, ?_⟩
  subst hn
  refine ⟨fun i m ys σ H => m = j.toNat - i ∧ i ≤ j.toNat ∧ Pv i ys σ H, ⟨j.toNat, by simp, Nat.zero_le _, h0⟩, ?_⟩
  rintro i m ys σ H ⟨rfl, hi, p⟩
  by_cases hlt : i < j.toNat
  · refine .inr ⟨hlt, Pv (i + 1), fun ys' σ' H' p' => ⟨j.toNat - (i + 1), by omega, rfl, hlt, p'⟩, fun x H' y => ?_⟩
    obtain ⟨e, y⟩ := y
    subst e y
    rw [Int.zero_add]
    exact hs i ys σ _ hlt p
  · have e : i = j.toNat := by omega
    subst e
    exact .inl ⟨Nat.le_refl _, hd ys σ H p⟩
end
end Co

set_option Elab.async false
set_option linter.all false
set_option maxRecDepth 100000
set_option maxHeartbeats 4000000
namespace Co
open PySem PySem.Spec PyProof.Rows L2
/-! ### words as eight hexadecimal signs -/
/-- the code of a hexadecimal sign -/
def hxd (n : Nat) : Nat := (Nat.digitChar (n % 16)).toNat
/-- the last k hexadecimal signs of a number -/
def hxs : Nat → Nat → List Nat
  | 0, _ => []
  | k + 1, n => hxd (n / 16 ^ k) :: hxs k n
theorem hxs_len (n : Nat) : ∀ k, (hxs k n).length = k
  | 0 => rfl
  | k + 1 => by show (hxs k n).length + 1 = _; rw [hxs_len n k]
theorem hxs_back : ∀ k n, hxs (k + 1) n = hxs k (n / 16) ++ [hxd n]
  | 0, n => by simp [hxs]
  | k + 1, n => by
    rw [show hxs (k + 1 + 1) n = hxd (n / 16 ^ (k + 1)) :: hxs (k + 1) n from rfl, hxs_back k n, show hxs (k + 1) (n / 16) = hxd (n / 16 / 16 ^ k) :: hxs k (n / 16) from rfl, Nat.div_div_eq_div_mul, Nat.pow_succ, Nat.mul_comm (16 ^ k) 16]
    rfl
theorem hxs_zero : ∀ k, hxs k 0 = List.replicate k 48
  | 0 => rfl
  | k + 1 => by rw [show hxs (k + 1) 0 = hxd (0 / 16 ^ k) :: hxs k 0 from rfl, hxs_zero k, Nat.zero_div, List.replicate_succ]; rfl
theorem hxs_digits : ∀ k n, n < 16 ^ k → 1 ≤ k → (Nat.toDigits 16 n).length ≤ k ∧ List.replicate (k - (Nat.toDigits 16 n).length) 48 ++ (Nat.toDigits 16 n).map Char.toNat = hxs k n
  | 0, _, _, h => by omega
  | k + 1, n, hn, _ => by
    rw [Nat.toDigits_eq_if (by decide)]
    by_cases h : n < 16
    · rw [if_pos h]
      refine ⟨by simp, ?_⟩
      rw [hxs_back, Nat.div_eq_of_lt h, hxs_zero]
      show List.replicate (k + 1 - 1) 48 ++ [(Nat.digitChar n).toNat] = _
      rw [Nat.add_sub_cancel]
      unfold hxd
      rw [Nat.mod_eq_of_lt h]
    · rw [if_neg h]
      have hk : 1 ≤ k := by
        rcases k with _ | k
        · exact absurd (by simpa using hn) h
        · omega
      have hn' : n / 16 < 16 ^ k := by rw [Nat.pow_succ] at hn; omega
      obtain ⟨l, e⟩ := hxs_digits k (n / 16) hn' hk
      refine ⟨by rw [List.length_append]; simpa using l, ?_⟩
      rw [hxs_back, ← e, List.length_append, List.map_append, List.append_assoc]
      congr 2
      simp
def hexT (n : Nat) : Str := ⟨(hxs 8 n).toArray⟩
def spec08x : Str := ⟨#[48, 56, 120]⟩
def f08x : Builtin.Float.FormatSpec := { fill := 48, align := 61, width := some 8, type := some 120 }
section
variable {prog : Program} {w : World} {A : Around} {E : Value → Shared → Prop} {s : Shared} {a : Int} {t : Tok} {Q : Value → Shared → Prop}
theorem hex_text (h0 : 0 ≤ a) (h1 : a < 4294967296) : intField' f08x (decide (a < 0)) [] ((Nat.toDigits 16 a.natAbs).map fun c => (if (120 : Nat) == 88 then c.toUpper else c).toNat) [] 4 = hexT a.toNat := by
  have hneg : decide (a < 0) = false := decide_eq_false (by omega)
  have hl := tDigits_len_ge 16 a.natAbs
  have hd : ((Nat.toDigits 16 a.natAbs).map fun c => (if (120 : Nat) == 88 then c.toUpper else c).toNat).isEmpty = false := by
    cases h : Nat.toDigits 16 a.natAbs with
    | nil => rw [h] at hl; simp at hl
    | cons _ _ => rfl
  rw [hneg, intField'_zero_nonneg f08x _ 4 rfl rfl hd rfl rfl, List.length_map]
  have e : a.natAbs = a.toNat := by omega
  have := (hxs_digits 8 a.toNat (by omega) (by decide)).2
  rw [e]
  exact congrArg (fun z : List Nat => (⟨z.toArray⟩ : Str)) this
theorem field_hex (h0 : 0 ≤ a) (h1 : a < 4294967296) (h : ∀ t' k, Q (.str (hexT a.toNat) t') { s with toks := k }) : wpAny (model prog w) A (formatField (.int a t) spec08x) Q E s := by
  refine PySem.W.KXf.field_int (spec' := spec08x) rfl (by decide +kernel) (by decide +kernel) (fun u => ?_) h
  apply PySem.W.KPc.meets_of
  intro prog w A s Q E h
  unfold Builtin.«int.__format__»
  refine wpAny_bind (wpAny_of_eq (a := (_, _)) rfl ?_)
  refine wpAny_bind (wpAny_of_eq (a := _) rfl ?_)
  kxf_if
  refine wpAny_bind (wpAny_typeNameOf (T := "str") (typeIs_str _ _ _) (by decide) fun _ => ?_)
  refine wpAny_bind (wpAny_of_eq (a := some _) rfl ?_)
  kxf_if
  kxf_if
  refine wpAny_bind (wpAny_typeNameOfCut_int ?_)
  rw [show Builtin.Float.parseFormatSpec spec08x.cps.toList "int" 62 = .ok f08x by rfl]
  (repeat kxf_if)
  exact PySem.W.KXf.ret_text (hex_text h0 h1) (Nat.le_trans (Nat.le_of_eq (congrArg PySem.Str.length (hex_text h0 h1))) (by show (hxs 8 a.toNat).toArray.size ≤ _; rw [List.size_toArray, hxs_len]; decide)) h
end
section
variable {X : Cx}
/-- {x:08x} of a word -/
def tHex (te : TE) : TE := fun σ H Q => te σ H fun x H1 => ∃ i : Int, x = .int i ∧ 0 ≤ i ∧ i < 4294967296 ∧ Q (.str (hexT i.toNat)) H1
theorem pe_hex {e : Expr} {te : TE} {j : Nat} {p1 p2 p3 : Pos} (he : PE X e te) : PE X (.FormattedValue e (-1) (some (.JoinedStr [.Constant (.str spec08x) j p1] p2)) p3) (tHex te) := by
  refine ⟨fun pins s σ H Q I h => ?_⟩
  refine wpAny_FormattedValue_spec (thn (he.run pins s σ H _ I h) fun v s1 hv => ?_)
  obtain ⟨x, H1, I1, r1, i, rfl, h0, h1, q⟩ := hv
  obtain ⟨t, rfl⟩ := r1
  refine thn ((pe_joined1 (pe_str (x := spec08x) (j := j) (pos := p1)) (pos := p2)).run pins s1 σ H1 (fun x H' => x = .str spec08x ∧ H' = H1) I1 ⟨rfl, rfl⟩) fun r s2 hr => ?_
  obtain ⟨y, H2, I2, r2, rfl, rfl⟩ := hr
  obtain ⟨u, rfl⟩ := r2
  exact ⟨_, u, rfl, field_hex h0 h1 fun t' k => ⟨.str (hexT i.toNat), H2, I2.tok _, ⟨t', rfl⟩, q⟩⟩
theorem w_hex {te : TE} {σ : L2.St} {H : Hp} {Q : VK} (q : te σ H fun x H1 => ∃ i : Int, x = .int i ∧ 0 ≤ i ∧ i < 4294967296 ∧ Q (.str (hexT i.toNat)) H1) : tHex te σ H Q := q
end

/-! ### texts that are put together -/
def kFmt (Q : VK) : VK := fun x H1 => (∃ y : Str, x = .str y ∧ y.length ≤ sizeLine ∧ Q (.str y) H1) ∨ ∃ i : Int, x = .int i ∧ i.natAbs.log2 < 1920 ∧ Q (.str (toString i)) H1
/-- an int as a text -/
def dcT (i : Int) : Str := toString i
theorem dcT_len {i : Int} (h : i.natAbs < 4294967296) : (dcT i).length ≤ 11 := by
  have e := int_text_length_le10 (a := i) (k := 10) (by decide) (by omega)
  unfold dcT
  rw [PySem.ofString_length]
  omega
theorem log_small {i : Int} (h : i.natAbs < 4294967296) : i.natAbs.log2 < 1920 := by
  rcases Nat.eq_zero_or_pos i.natAbs with e | e
  · rw [e]; decide
  · exact Nat.lt_trans ((Nat.log2_lt (by omega)).mpr (show i.natAbs < 2 ^ 32 by omega)) (by decide)
def tJ (ts : List TE) : TE := fun σ H Q => tJs ts Str.empty σ H fun out H1 => Q (.str out) H1
theorem pe_J {X : Cx} {v1 v2 : Expr} {rest : List Expr} {ts : List TE} {pos : Pos} (h : PJ X (v1 :: v2 :: rest) ts) : PE X (.JoinedStr (v1 :: v2 :: rest) pos) (tJ ts) := pe_joined h
def kJs (acc : Str) (ts : List TE) (σ : L2.St) (Q : Str → Hp → Prop) : VK := fun x H1 => ∃ y : Str, x = .str y ∧ (acc ++ y).length ≤ sizeLine ∧ tJs ts (acc ++ y) σ H1 Q
def rStrQ : List V → Hp → VK → Prop := fun xs H Q => ∃ i, xs = [.int i] ∧ i.natAbs.log2 < 1920 ∧ Q (.str (toString i)) H
theorem call_strQ {X : Cx} : CallR X (.type "str") rStrQ := call_str_int
def rJoinQ (K : PySem.W.Frag) : V → List V → Hp → VK → Prop := fun x xs H Q => ∃ a p, ∃ ys : List Str, x = .str a ∧ xs = [.ref p] ∧ (SqL K H p (ys.map V.str) ∨ SqT K H p (ys.map V.str)) ∧
    (ys.map (·.length)).sum + ys.length * a.length ≤ 16777216 ∧ Q (.str (Txt.join a ys)) H
theorem mt_joinQ {X : Cx} : MtR X "str.join" (rJoinQ X.K) := mt_join
theorem cat_len (a b : Str) : (a ++ b).length = a.length + b.length := by
  show (a ++ b).cps.size = a.cps.size + b.cps.size
  rw [Str.cps_append, Array.size_append]
section
variable {te : TE} {σ : L2.St} {H : Hp} {Q : VK}
theorem w_fmt (q : te σ H (kFmt Q)) : tFmt te σ H Q := q
theorem w_kFmtS {y : Str} (h : y.length ≤ sizeLine) (q : Q (.str y) H) : kFmt Q (.str y) H := .inl ⟨y, rfl, h, q⟩
theorem w_kFmtI {i : Int} (h : i.natAbs < 4294967296) (q : Q (.str (dcT i)) H) : kFmt Q (.int i) H := .inr ⟨i, rfl, log_small h, q⟩
theorem w_J {ts : List TE} (q : tJs ts Str.empty σ H fun out H1 => Q (.str out) H1) : tJ ts σ H Q := q
theorem w_Js {t : TE} {ts : List TE} {acc : Str} {R : Str → Hp → Prop} (q : t σ H (kJs acc ts σ R)) : tJs (t :: ts) acc σ H R := q
theorem w_Js0 {acc : Str} {R : Str → Hp → Prop} (q : R acc H) : tJs [] acc σ H R := q
theorem w_kJs {ts : List TE} {acc y : Str} {R : Str → Hp → Prop} (h : (acc ++ y).length ≤ sizeLine) (q : tJs ts (acc ++ y) σ H R) : kJs acc ts σ R (.str y) H := ⟨y, rfl, h, q⟩
theorem w_strI {i : Int} (h : i.natAbs < 4294967296) (q : Q (.str (dcT i)) H) : rStrQ [.int i] H Q := ⟨i, rfl, log_small h, q⟩
theorem w_joinL {K : PySem.W.Frag} {a : Str} {p : Addr} (ys : List Str) (h : SqL K H p (ys.map V.str)) (hz : (ys.map (·.length)).sum + ys.length * a.length ≤ 16777216) (q : Q (.str (Txt.join a ys)) H) : rJoinQ K (.str a) [.ref p] H Q := ⟨a, p, ys, rfl, rfl, .inl h, hz, q⟩
end
section
variable {g : TG} {tb : TS} {D : Ends} {σ : L2.St} {H : Hp}
theorem w_forR2 {j : Int} (n : Nat) (Pv : Nat → L2.St → Hp → Prop) (hn : (j - 1).toNat = n) (hj : n < 4611686018427387903 ∧ -4611686018427387904 ≤ j) (h0 : Pv 0 σ H)
    (hs : ∀ i σ H, i < n → Pv i σ H → g (.int (1 + (i : Int))) σ H fun σ2 H2 => tb { D with nx := Pv (i + 1), ct := Pv (i + 1), bk := D.nx } σ2 H2) (hd : ∀ σ H, Pv n σ H → D.nx σ H) : kR2 (kFor g tb D σ) [.int 1, .int j] H := by
  refine ⟨1, j, rfl, ⟨by decide, by decide, by show -4611686018427387904 ≤ j; omega, by show j < 4611686018427387904; omega⟩, ?_⟩
  subst hn
  exact for_range (lo := 1) (n := (j - 1).toNat) Pv h0 (fun i σ H hi p => hs i σ H hi p) hd
end
end Co

set_option Elab.async false
set_option linter.all false
set_option maxRecDepth 100000
set_option maxHeartbeats 4000000
namespace Co
open PySem PySem.Spec PyProof.Rows L2
/-! ### sorted(rows) of pairs of an int and a text -/
/-- the int that a pair begins with -/
def kF (H : Hp) : V → Int
  | .ref t => match H t with
    | some (.tup (.int i :: _)) => i
    | _ => 0
  | _ => 0
abbrev shp : Nat → Bool := fun i => i == 1
theorem tups_ex {h : Heap} : ∀ {vs : List Value}, (∀ v ∈ vs, ∃ f, TupOf h shp v f) → ∃ fs, TupsOf h shp vs fs
  | [], _ => ⟨[], .nil⟩
  | v :: vs, h => by
    obtain ⟨f, hf⟩ := h v List.mem_cons_self
    obtain ⟨fs, hr⟩ := tups_ex fun u hu => h u (List.mem_cons_of_mem _ hu)
    exact ⟨f :: fs, .cons hf hr⟩
def rSortedT (K : PySem.W.Frag) : List V → Hp → VK → Prop := fun vs H Q => ∃ a xs, vs = [V.ref a] ∧ SqL K H a xs ∧ (∀ x ∈ xs, ∃ t i z, x = V.ref t ∧ H t = some (.tup [.int i, .str z])) ∧
  ∀ ys p, ys.Perm xs → (ys.map (kF H)).Pairwise (· ≤ ·) → H p = none → Q (.ref p) (upd H p (.lst ys))
theorem cr_sortedT {X : Cx} : CallR X (.builtin "sorted") (rSortedT X.K) := by
  intro pins s σ H vs us Q I r h
  obtain ⟨a, xs, rfl, hs, hx, q⟩ := h
  obtain ⟨its, rv, hl, hz⟩ := I.list hs
  obtain ⟨u, rfl, ru⟩ := vals1 r
  obtain rfl : u = Value.ref a := ru
  obtain ⟨e1, e2⟩ := refs_back rv fun x m => by
    obtain ⟨t, _, _, e, _⟩ := hx x m
    exact ⟨t, e⟩
  have each : ∀ v ∈ its, ∃ t i z o t1 t2 n, v = Value.ref t ∧ H t = some (.tup [.int i, .str z]) ∧ s.heap.get? t = some o ∧ o.cls = .type "tuple" ∧ o.data = .seq #[.int i t1, .str z t2] n := fun v hv => by
    obtain ⟨t, rfl⟩ := e2 v hv
    have hm : V.ref t ∈ xs := by rw [e1]; exact List.mem_map.mpr ⟨_, hv, rfl⟩
    obtain ⟨t', i, z, e, ht⟩ := hx _ hm
    cases e
    obtain ⟨_, its2, r2, o, ho, hc, n, hd⟩ := I.hok _ _ ht
    obtain ⟨u1, u2, rfl, ri, rj⟩ := vals2 r2
    obtain ⟨t1, rfl⟩ := ri
    obtain ⟨t2, rfl⟩ := rj
    exact ⟨t, i, z, o, t1, t2, n, rfl, ht, ho, hc, hd⟩
  have key : ∀ v ∈ its, ∃ y, G.tupKeyC s.heap shp v = some [Sum.inl (kF H (backV v)), Sum.inr y] := fun v hv => by
    obtain ⟨t, i, z, o, t1, t2, n, rfl, ht, ho, hc, hd⟩ := each v hv
    refine ⟨z.cps.toList, ?_⟩
    have ek : kF H (backV (.ref t)) = i := by
      show (match H t with | some (.tup (.int i :: _)) => i | _ => 0) = i
      rw [ht]
    rw [ek]
    unfold G.tupKeyC G.isTupObj
    simp only [ho, hc]
    rw [if_pos (by decide)]
    unfold tupKey
    simp only [ho, hd]
    rfl
  obtain ⟨fs, ht⟩ := tups_ex (h := s.heap) (vs := its) fun v hv => by
    obtain ⟨t, i, z, o, t1, t2, n, rfl, ht, ho, hc, hd⟩ := each v hv
    exact ⟨.int i t1, t, o, _, n, rfl, ho, hc, hd, rfl, fun _ => ⟨_, _, rfl⟩, fun e => absurd e (by decide)⟩
  refine G.sorted_tups (shape := shp) hl.isList ht (fun v hv => by obtain ⟨y, e⟩ := key v hv; exact ⟨_, e⟩) (by rw [← rv.length]; exact hz) fun st' hp hst _ => ?_
  have mem : ∀ p, p ∈ (arrOf st').toList → p.1 = p.2 ∧ p.1 ∈ its := fun p hp' => by
    have h2 : p ∈ (pairsOf its).toList := (Array.perm_iff_toList_perm.mp hp).mem_iff.mp hp'
    rw [pairsOf_toList] at h2
    exact mem_zip_self h2
  have sz : (arrOf st').size = its.length := by rw [hp.size_eq, pairsOf_size]
  obtain ⟨ep, he'⟩ := sortedAll_at s.heap its ((arrOf st').map (·.2))
  have ol : ((arrOf st').map (·.2)).toList = (arrOf st').toList.map (·.2) := Array.toList_map
  have om : ∀ u ∈ (arrOf st').toList.map (·.2), ∃ a, u = Value.ref a := fun u hu => by
    obtain ⟨p, hp', rfl⟩ := List.mem_map.mp hu
    obtain ⟨e, m⟩ := mem p hp'
    exact e2 _ (e ▸ m)
  have pm : (((arrOf st').toList.map (·.2)).map backV).Perm xs := by
    rw [e1]
    refine List.Perm.map _ ?_
    have := (Array.perm_iff_toList_perm.mp hp).map (·.2)
    rw [pairsOf_toList] at this
    have ez : (its.zip its).map (·.2) = its := by rw [List.map_snd_zip]; omega
    rw [ez] at this
    exact this
  have hlen : (((arrOf st').toList.map (·.2)).map backV).length ≤ sizeLine := by rw [pm.length_eq]; exact hz
  refine ⟨.ref _, upd H (s.heap.objs.size + 1) (.lst (((arrOf st').toList.map (·.2)).map backV)), I.laid (t' := s.toks) (fun _ _ => sortedAll_old) (Nat.le_succ _) ⟨hlen, ((arrOf st').map (·.2)).toList, ep, by rw [ol]; exact vals_back om, by rw [Array.toArray_toList]; exact he'⟩, rfl, q _ _ pm ?_ (I.hok.fresh (Nat.le_succ _))⟩
  rw [List.pairwise_iff_getElem]
  intro i j hi hj hij
  simp only [List.length_map, Array.length_toList] at hi hj
  have hK : ∀ k (hk : k < (arrOf st').size), ∃ y, KK (G.tupKindC s.heap shp) (arrOf st') k = [Sum.inl (kF H (backV (arrOf st')[k].2)), Sum.inr y] := fun k hk => by
    obtain ⟨e, m⟩ := mem (arrOf st')[k] (by simp)
    obtain ⟨y, ey⟩ := key _ m
    refine ⟨y, ?_⟩
    unfold KK
    rw [Array.getElem?_eq_getElem hk]
    show ((G.tupKeyC s.heap shp (arrOf st')[k].1).getD _) = _
    rw [ey, e]
    rfl
  obtain ⟨y1, k1⟩ := hK i hi
  obtain ⟨y2, k2⟩ := hK j hj
  have o := hst i j (Nat.le_of_lt hij) (by rw [pairsOf_size, ← sz]; exact hj)
  rw [k1, k2] at o
  have o2 := (lex_false.mp o).1
  have o3 : decide (kF H (backV (arrOf st')[j].2) < kF H (backV (arrOf st')[i].2)) = false := o2
  have o4 := of_decide_eq_false o3
  simp only [List.getElem_map, Array.getElem_toList]
  omega
end Co
namespace Co
open PySem PySem.Spec PyProof.Rows L2
/-! ### rows.count(row) of rows that are data: some number -/
def rCntD (K : PySem.W.Frag) : V → List V → Hp → VK → Prop := fun x xs H Q => ∃ (p : Addr) (ys : List V) (z : V) (d : PyData), x = .ref p ∧ xs = [z] ∧ SqL K H p ys ∧ (∀ y ∈ ys, ∃ e, Dp K H y e ∧ e.canLay0 = true) ∧ Dp K H z d ∧ d.canLay0 = true ∧ d.depth ≤ 8 ∧ ∀ n : Nat, Q (.int n) H
theorem vals_mem : ∀ {xs : List V} {us : List Value}, Vals xs us → ∀ u ∈ us, ∃ x ∈ xs, RelV x u
  | _, _, .nil, u, h => by cases h
  | x :: xs, _ :: us, .cons r t, u, h => by
    rcases List.mem_cons.mp h with rfl | h
    · exact ⟨x, List.mem_cons_self, r⟩
    · obtain ⟨y, hy, e⟩ := vals_mem t u h
      exact ⟨y, List.mem_cons_of_mem _ hy, e⟩
open Classical in
theorem mt_lcountD {X : Cx} (hu : X.A.units + 64 < cLine) : MtR X "list.count" (rCntD X.K) := by
  intro pins s σ H x xs v us Q I rx rxs h
  obtain ⟨p, ys, z, d, rfl, rfl, hs, hy, hz, cd, dd, q⟩ := h
  cases rx
  obtain ⟨u, rfl, ru⟩ := rxs.one
  obtain ⟨its, rv, ⟨⟨cls, dd', data, sl⟩, n, ho, hc, hdn, hd⟩, hlen⟩ := I.list hs
  simp only at hc hd
  subst hc hd
  obtain ⟨bs, r2⟩ := Dp.reads I d z u hz ru
  have ev : ∀ y ∈ its.toArray, ∃ b, SeqAt.EqAt X.A.in1 s y u b := fun y hm => by
    obtain ⟨y', hy', ry⟩ := vals_mem rv y (by simpa using hm)
    obtain ⟨e, he, ce⟩ := hy y' hy'
    obtain ⟨as, r1⟩ := Dp.reads I e y' y he ry
    exact ⟨_, SeqAt.eqAt_reads e d X.A.in1 s y u as bs r1 r2 ce cd (by show X.A.units + 1 + _ < cLine; omega)⟩
  let f : Value → Bool := fun y => if h : ∃ b, SeqAt.EqAt X.A.in1 s y u b then h.choose else false
  refine call_meets PySem.F.slot_list_count ⟨_, ho, rfl⟩ PySem.F.entry_list_count (PySem.F.args_list_count_2 _ _)
    (SeqAt.list_countAt p its.toArray n dd' sl u f) ⟨ho, fun y hm => ?_, ?_⟩
  · have h := ev y hm
    show SeqAt.EqAt _ _ y u (f y)
    have e : f y = h.choose := dif_pos h
    rw [e]
    exact h.choose_spec
  · exact ⟨.int (its.toArray.toList.countP f : Nat), H, I.tok _, ⟨s.toks, rfl⟩, q _⟩
theorem w_cntD {K : PySem.W.Frag} {p : Addr} {ys : List V} {z : V} {d : PyData} {H : Hp} {Q : VK} (h : SqL K H p ys) (hy : ∀ y ∈ ys, ∃ e, Dp K H y e ∧ e.canLay0 = true) (hz : Dp K H z d) (cd : d.canLay0 = true) (dd : d.depth ≤ 8) (q : ∀ n : Nat, Q (.int n) H) : rCntD K (.ref p) [z] H Q := ⟨p, ys, z, d, rfl, rfl, h, hy, hz, cd, dd, q⟩
theorem w_sortedT {K : PySem.W.Frag} {a : Addr} {xs : List V} {H : Hp} {Q : VK} (h : SqL K H a xs) (hx : ∀ x ∈ xs, ∃ t i z, x = V.ref t ∧ H t = some (.tup [.int i, .str z])) (q : ∀ ys p H', ys.Perm xs → (ys.map (kF H)).Pairwise (· ≤ ·) → H p = none → Same H H' → H' p = some (.lst ys) → Q (.ref p) H') : rSortedT K [.ref a] H Q :=
  ⟨a, xs, rfl, h, hx, fun ys p h1 h2 h3 => q ys p _ h1 h2 h3 (Same.new h3) upd_same⟩
theorem w_brk {D : Ends} {σ : L2.St} {H : Hp} (q : D.bk σ H) : tBreak D σ H := q
end Co

set_option Elab.async false
set_option linter.all false
set_option maxRecDepth 100000
set_option maxHeartbeats 4000000
namespace Co
open PySem PySem.Spec PyProof.Rows L2
theorem mt_lcountDK {X : Cx} {K' : PySem.W.Frag} (hK : X.K = K') (hu : X.A.units + 64 < cLine) : MtR X "list.count" (rCntD K') := by subst hK; exact mt_lcountD hu
theorem pe_bmK {X : Cx} {K' : PySem.W.Frag} {o e : Expr} {es : List Expr} {to : TE} {t : TA} {name : Str} {apos cpos : Pos} {T id : String} {r : V → List V → Hp → VK → Prop} (hK : X.K = K') (pa : PlainAttrs T) (slot : Slot T name id) (hty : typeOf (.builtin id) = pure (.type "method_descriptor")) (hm : MtR X id r) (ho : PE X o to) (ha : PA X (e :: es) t)
    (hbase : attributeBase o name X.env (eval o X.env) = eval o X.env := by rfl)
    (hfew : ((backTo cpos (starEach (e :: es) X.env)).all (fun x => !x.1) && (backToKw cpos (keywordEach [] X.env)).all (fun x => x.1.isSome)
      && decide ((e :: es).length + ([] : List Keyword).length + (if ([] : List Keyword).isEmpty then 0 else 1) < 30)) = true := by rfl)
    (hline : (apos.endLine == cpos.line) = true := by rfl) (hs : starEach (e :: es) X.env = (false, eval e X.env) :: starEach es X.env := by rfl) (hplain : (backTo cpos (starEach es X.env)).any (·.1) = false := by rfl) :
    PE X (.Call (.Attribute o name apos) (e :: es) [] cpos) (tBM K' T r to t) := by subst hK; exact pe_bm pa slot hty hm ho ha hbase hfew hline hs hplain
/-! ### texts whose signs are all signs; lists of texts as data -/
theorem sO_cat {a b : Str} (h1 : PyData.strOk a = true) (h2 : PyData.strOk b = true) : PyData.strOk (a ++ b) = true := by
  unfold PyData.strOk at *
  rw [Str.cps_append, Array.all_append, h1, h2]
  rfl
theorem sO_char (c : Char) : c.toNat < 0x110000 := by
  rcases c.valid with h | h
  · have : c.toNat < 0xd800 := h
    omega
  · exact h.2
theorem sO_list {l : List Nat} (h : ∀ x ∈ l, x < 0x110000) : PyData.strOk ⟨l.toArray⟩ = true := by
  unfold PyData.strOk
  rw [List.all_toArray, List.all_eq_true]
  exact fun x hx => decide_eq_true (h x hx)
theorem sO_ofString (s : String) : PyData.strOk (s : Str) = true := by
  rw [show ((s : Str)) = ⟨(s.toList.map Char.toNat).toArray⟩ from Str.ofString_eq_toList s]
  refine sO_list fun x hx => ?_
  obtain ⟨c, _, rfl⟩ := List.mem_map.mp hx
  exact sO_char c
theorem sO_dc (i : Int) : PyData.strOk (dcT i) = true := sO_ofString _
theorem hxs_ok : ∀ k n, ∀ x ∈ hxs k n, x < 0x110000
  | 0, _, x, h => by cases h
  | k + 1, n, x, h => by
    rcases List.mem_cons.mp h with rfl | h
    · exact sO_char _
    · exact hxs_ok k n x h
theorem sO_hex (n : Nat) : PyData.strOk (hexT n) = true := sO_list (hxs_ok 8 n)
theorem sO_join (a : Str) (ha : PyData.strOk a = true) : ∀ ys : List Str, (∀ y ∈ ys, PyData.strOk y = true) → PyData.strOk (Txt.join a ys) = true := by
  intro ys
  rw [TL.join_eq]
  induction ys with
  | nil => intro _; rw [Str.join]; exact sO_list (l := []) (fun x h => by cases h)
  | cons x r ih =>
    intro h
    cases r with
    | nil => rw [Str.join]; exact h x List.mem_cons_self
    | cons y r =>
      show PyData.strOk (x ++ a ++ Str.join a (y :: r)) = true
      exact sO_cat (sO_cat (h x List.mem_cons_self) ha) (ih fun z hz => h z (List.mem_cons_of_mem _ hz))
theorem lay_strs : ∀ xs : List Str, (∀ x ∈ xs, PyData.strOk x = true) → PyData.canLayAll0 (xs.map .str) = true ∧ PyData.depthAll (xs.map .str) = 0
  | [], _ => by simp [PyData.canLayAll0, PyData.depthAll]
  | x :: r, h => by
    have := lay_strs r fun y hy => h y (List.mem_cons_of_mem _ hy)
    simp [PyData.canLayAll0, PyData.depthAll, PyData.canLay0, PyData.depth, this.1, this.2, h x List.mem_cons_self]
theorem dpStrs {K : PySem.W.Frag} {H : Hp} : ∀ xs : List Str, DpAll K H (xs.map V.str) (xs.map .str)
  | [] => .nil
  | x :: r => .cons (.str x) (dpStrs r)
theorem strs_shaped {xs : List Str} (h : ∀ x ∈ xs, PyData.strOk x = true) : SeqAt.shaped (.list (xs.map .str)) = true := by
  have l := lay_strs xs h
  simp only [SeqAt.shaped, PyData.canLay0, PyData.depth, l.1, l.2, Bool.true_and, decide_eq_true_eq]
  decide
theorem ints_shaped (xs : List Int) : SeqAt.shaped (.list (xs.map .int)) = true := by
  have l := lay_ints xs
  simp only [SeqAt.shaped, PyData.canLay0, PyData.depth, l.1, l.2, Bool.true_and, decide_eq_true_eq]
  decide
/-- a list against the empty one -/
theorem w_neE0 {K : PySem.W.Frag} {p q : Addr} {xs : List V} {ds : List PyData} {H : Hp} {Q : VK} (h1 : SqL K H p xs) (hd : DpAll K H xs ds) (h2 : SqL K H q []) (s : SeqAt.shaped (.list ds) = true) (k : Q (.bl (!decide (xs = []))) H) : rNeD K (.ref p) (.ref q) H Q :=
  ⟨.list ds, .list [], .lst h1 hd, .lst h2 .nil, s, by decide, by
    cases hd with
    | nil => exact k
    | cons _ _ => exact k⟩
end Co

set_option Elab.async false
set_option linter.all false
set_option maxRecDepth 100000
set_option maxHeartbeats 4000000
namespace Co
open PySem PySem.Spec PyProof.Rows L2 RZ
/-! ### x in (a, b) of data; == and != of data inside a comprehension -/
def rInDT (K : PySem.W.Frag) : R2 := fun x y H Q => ∃ d ds, Dp K H x d ∧ Dp K H y (.tuple ds) ∧ SeqAt.shaped d = true ∧ SeqAt.shaped (.tuple ds) = true ∧ Q (.bl (ds.any fun z => PyData.eqv z d)) H
theorem room_in {A : Around} {xs : List PyData} {d : PyData} (sd : SeqAt.shaped d = true) (hu : A.units + 65 < cLine) : A.units + 1 + min (PyData.depthAll xs) d.depth < cLine := by
  have : d.depth ≤ 64 := by
    unfold SeqAt.shaped at sd
    simp only [Bool.and_eq_true, decide_eq_true_eq] at sd
    exact sd.2
  have := Nat.min_le_right (PyData.depthAll xs) d.depth
  omega
theorem op_inDT {X : Cx} (hu : X.A.units + 65 < cLine) : OpR X (compareOp .In) (rInDT X.K) := by
  intro pins s σ H x y v u Q I rx ry h
  obtain ⟨d, ds, hd, he, sd, se, q⟩ := h
  obtain ⟨as, r1⟩ := Dp.reads I d x v hd rx
  obtain ⟨bs, r2⟩ := Dp.reads I (.tuple ds) y u he ry
  exact SeqAt.in_tuple_reads r2 r1 (SeqAt.canLay_of_shaped se) (SeqAt.canLay_of_shaped sd) (room_in sd hu) ⟨.bl _, H, I, rfl, q⟩
theorem op_eqDK {X : Cx} {K' : PySem.W.Frag} (hK : X.K = K') (hu : X.A.units + 64 < cLine) : OpR X (compareOp .Eq) (rEqD K') := by subst hK; exact op_eqD hu
theorem op_neDK {X : Cx} {K' : PySem.W.Frag} (hK : X.K = K') (hu : X.A.units + 64 < cLine) : OpR X (compareOp .NotEq) (rNeD K') := by subst hK; exact op_neD hu
theorem hu65 {A : Around} {k : Nat} (hr : Room k A) : A.units + 65 < cLine := by have := hr.un; omega
/-! ### extend, dict.get with two arguments, sorted and list of a dict -/
theorem w_extend {p b : Addr} {xs zs : List V} {H : Hp} {Q : VK} (h : H p = some (.lst xs)) (hb : H b = some (.lst zs)) (hl : xs.length + zs.length ≤ sizeLine) (q : ∀ H', H' p = some (.lst (xs ++ zs)) → But p H H' → Q .non H') : rExtend (.ref p) [.ref b] H Q := ⟨p, b, xs, zs, rfl, rfl, h, hb, hl, q _ upd_same But.set⟩
def kI (i : Int) : Key := Sum.inl i
theorem w_dget2 {td ty tx : TE} {σ : L2.St} {H : Hp} {Q : VK} (q : td σ H fun x H1 => ∃ a, x = .ref a ∧ IsD H1 a ∧ ty σ H1 fun y H2 => tx σ H2 fun z H3 => ∃ o, DGet H3 a y o ∧ Q (o.getD z) H3) : tDGet2 td ty tx σ H Q := q
theorem DGet.i {H : Hp} {a : Addr} {kvs : List (Key × V)} {k : Int} (e : H a = some (.dK kvs)) : DGet H a (.int k) (valV kvs (kI k)) := DGet.k (k := kI k) e
def rSortedDI : List V → Hp → VK → Prop := fun xs H Q => ∃ (a : Addr) (kvs : List (Key × V)) (ks : List Int), xs = [.ref a] ∧ Rd H a (.dK kvs) ∧ kvs.map (·.1) = ks.map Sum.inl ∧ ks.length < 64 ∧ ∀ (ys : List Int) (p : Addr), ys.Perm ks → ys.Pairwise (· ≤ ·) → H p = none → Q (.ref p) (upd H p (.lst (ys.map V.int)))
theorem cr_sortedDI {X : Cx} (hc : X.calm = true) : CallR X (.builtin "sorted") rSortedDI := call_sortedDI hc
theorem w_sortedDI {a : Addr} {kvs : List (Key × V)} (ks : List Int) {H : Hp} {Q : VK} (h : H a = some (.dK kvs)) (e : kvs.map (·.1) = ks.map Sum.inl) (hl : ks.length < 64) (q : ∀ (ys : List Int) p H', ys.Perm ks → ys.Pairwise (· ≤ ·) → H p = none → Same H H' → H' p = some (.lst (ys.map V.int)) → Q (.ref p) H') : rSortedDI [.ref a] H Q :=
  ⟨a, kvs, ks, rfl, .inl h, e, hl, fun ys p h1 h2 h3 => q ys p _ h1 h2 h3 (Same.new h3) upd_same⟩
def rListDK : List V → Hp → VK → Prop := fun xs H Q => ∃ (a : Addr) (kvs : List (Key × V)), xs = [.ref a] ∧ Rd H a (.dK kvs) ∧ ∀ p, H p = none → Q (.ref p) (upd H p (.lst (kvs.map fun kv => kV kv.1)))
theorem cr_listDK {X : Cx} (hc : X.calm = true) : CallR X (.type "list") rListDK := call_listD hc
theorem w_listDK {a : Addr} {kvs : List (Key × V)} {H : Hp} {Q : VK} (h : H a = some (.dK kvs)) (q : ∀ p H', H p = none → Same H H' → H' p = some (.lst (kvs.map fun kv => kV kv.1)) → Q (.ref p) H') : rListDK [.ref a] H Q :=
  ⟨a, kvs, rfl, .inl h, fun p np => q p _ np (Same.new np) upd_same⟩
theorem w_kDPi {p : Addr} {kvs kvs' : List (Key × V)} {z : Int} {v : V} {D : Ends} {σ : L2.St} {H : Hp} (h : H p = some (.dK kvs)) (hl : kvs.length < 1000) (e : putK kvs (kI z) v = kvs') (q : ∀ H', H' p = some (.dK kvs') → But p H H' → D.nx σ H') : ∃ a H4, V.ref p = .ref a ∧ DPut H a (.int z) v H4 ∧ D.nx σ H4 :=
  ⟨p, _, rfl, DPut.k (k := kI z) h (Nat.lt_of_lt_of_le hl (by decide)), q _ (by rw [e]; exact upd_same) But.set⟩
theorem w_kDGi {p : Addr} {kvs : List (Key × V)} {z : Int} {v : V} {H : Hp} {Q : VK} (h : H p = some (.dK kvs)) (e : valV kvs (kI z) = some v) (q : Q v H) : ∃ a v, V.ref p = .ref a ∧ DGet H a (.int z) (some v) ∧ Q v H := ⟨p, v, rfl, by have := DGet.i (k := z) h; rw [e] at this; exact this, q⟩
/-! ### comprehensions over range with a step, over zip of two tuples -/
def kR3 (R : It → Hp → Prop) : List V → Hp → Prop := fun vs H1 => ∃ (i j c : Int) (n : Nat), vs = [.int i, .int j, .int c] ∧ RgC i j c n ∧ R (Itc i c n) H1
theorem w_rng3 {ta : TA} {σ : L2.St} {H : Hp} {R : It → Hp → Prop} (q : ta σ H (kR3 R)) : iRng3 ta σ H R := q
theorem rg4 (n : Nat) (hn : n < 1000000) : RgC 0 (4 * (n : Int)) 4 n := by
  have e : Builtin.Range.rangeSize 0 (4 * (n : Int)) 4 = n := by
    unfold Builtin.Range.rangeSize
    rw [if_pos (by decide)]
    split <;> omega
  have f : ∀ x : Int, -1000000000 ≤ x → x ≤ 1000000000 → Builtin.Range.rangeFitsLong x = true := fun x h1 h2 => by
    unfold Builtin.Range.rangeFitsLong
    rw [Bool.and_eq_true, decide_eq_true_iff, decide_eq_true_iff]
    exact ⟨by omega, by omega⟩
  refine ⟨by decide, by decide, ?_, e⟩
  unfold Builtin.Range.small
  rw [e]
  rw [f 0 (by decide) (by decide), f (4 * (n : Int)) (by omega) (by omega), f 4 (by decide) (by decide), f (n : Int) (by omega) (by omega), if_pos (by decide), f (4 * (n : Int) + (4 - 1)) (by omega) (by omega)]
  simp
theorem w_lcC {g : TG} {tt : TT} {te : TE} {vs : List Nat} {σ : L2.St} {H : Hp} {Q : VK} {i j c : Int} (n : Nat) (Pv : Addr → Nat → Hp → Prop) (hn : RgC i j c n) (h0 : ∀ D, H D = none → Pv D 0 (upd H D (.lst [])))
    (hs : ∀ D k H, k < n → Pv D k H → g (.int (i + (k : Nat) * c)) (wipe σ vs) H fun σ2 H2 => wipe σ2 vs = wipe σ vs ∧ tt σ2 H2 fun b H3 =>
      if b = true then te σ2 H3 fun y H4 => ∃ acc, H4 D = some (.lst acc) ∧ acc.length < sizeLine ∧ Pv D (k + 1) (upd H4 D (.lst (acc ++ [y]))) else Pv D (k + 1) H3) (hd : ∀ D H', H D = none → Pv D n H' → Q (.ref D) H') : kR3 (kLc g tt te vs σ Q) [.int i, .int j, .int c] H := by
  refine ⟨i, j, c, n, rfl, hn, fun D nD => ⟨fun k m H => m = n - k ∧ k ≤ n ∧ Pv D k H, ⟨n, rfl, Nat.zero_le _, h0 D nD⟩, ?_⟩⟩
  rintro k m H' ⟨rfl, hk, p⟩
  rcases Nat.lt_or_ge k n with lt | ge
  · refine .inr ⟨lt, Pv D (k + 1), fun H2 p2 => ⟨n - (k + 1), by omega, rfl, lt, p2⟩, fun v H2 y => ?_⟩
    obtain ⟨rfl, rfl⟩ := y
    exact hs D k _ lt p
  · obtain rfl : k = n := by omega
    exact .inl ⟨Nat.le_refl _, hd D H' nD p⟩
def kZA (K : PySem.W.Frag) (R : It → Hp → Prop) : List V → Hp → Prop := fun vs H1 => ∃ a b xs ys, vs = [.ref a, .ref b] ∧ ((SqL K H1 a xs ∧ SqL K H1 b ys ∧ R (Itz K a b) H1) ∨ (SqT K H1 a xs ∧ SqT K H1 b ys ∧ R (ItzT K a b) H1))
theorem w_zA {K : PySem.W.Frag} {ta : TA} {σ : L2.St} {H : Hp} {R : It → Hp → Prop} (q : ta σ H (kZA K R)) : iZipA K ta σ H R := q
theorem w_lcZT {K : PySem.W.Frag} {g : TG} {tt : TT} {te : TE} {vs : List Nat} {σ : L2.St} {H : Hp} {Q : VK} {a b : Addr} (xs ys : List V) (Pv : Addr → Nat → Hp → Prop) (hx : SqT K H a xs) (hy : SqT K H b ys) (hl : xs.length = ys.length) (h0 : ∀ D, H D = none → Pv D 0 (upd H D (.lst []))) (hq : ∀ D i H, Pv D i H → SqT K H a xs ∧ SqT K H b ys)
    (hs : ∀ D i x y T H H', xs[i]? = some x → ys[i]? = some y → Pv D i H → H T = none → Same H H' → H' T = some (.tup [x, y]) → g (.ref T) (wipe σ vs) H' fun σ2 H2 => wipe σ2 vs = wipe σ vs ∧ tt σ2 H2 fun b H3 =>
      if b = true then te σ2 H3 fun y H4 => ∃ acc, H4 D = some (.lst acc) ∧ acc.length < sizeLine ∧ Pv D (i + 1) (upd H4 D (.lst (acc ++ [y]))) else Pv D (i + 1) H3) (hd : ∀ D H', H D = none → Pv D xs.length H' → Q (.ref D) H') : kZA K (kLc g tt te vs σ Q) [.ref a, .ref b] H := by
  refine ⟨a, b, xs, ys, rfl, .inr ⟨hx, hy, fun D nD => ⟨fun i m H => m = xs.length - i ∧ i ≤ xs.length ∧ Pv D i H, ⟨xs.length, rfl, Nat.zero_le _, h0 D nD⟩, ?_⟩⟩⟩
  rintro i m H' ⟨rfl, hi, p⟩
  obtain ⟨qx, qy⟩ := hq D i H' p
  rcases Nat.lt_or_ge i xs.length with lt | ge
  · have e1 : xs[i]? = some xs[i] := List.getElem?_eq_getElem lt
    have lt2 : i < ys.length := by omega
    have e2 : ys[i]? = some ys[i] := List.getElem?_eq_getElem lt2
    refine .inr ⟨⟨xs, ys, _, _, qx, qy, e1, e2⟩, Pv D (i + 1), fun H2 p2 => ⟨xs.length - (i + 1), by omega, rfl, lt, p2⟩, fun v H2 y => ?_⟩
    obtain ⟨T, x', y', rfl, nT, rfl, f1, f2⟩ := y
    exact hs D i x' y' T H' _ (f1 xs qx) (f2 ys qy) p nT (Same.new nT) upd_same
  · obtain rfl : i = xs.length := by omega
    exact .inl ⟨⟨xs, ys, qx, qy, .inl (Nat.le_refl _)⟩, hd D H' nD p⟩
end Co
namespace Co
open PySem PySem.Spec PyProof.Rows L2 RZ
/-- text in d, of a dict of the module -/
def rInKG (K : PySem.W.Frag) (w : World) : R2 := fun x y H Q => ∃ z o d, x = .str z ∧ y = .ref d ∧ KGet K w d z o ∧ Q (.bl o.isSome) H
theorem op_inKG {X : Cx} : OpR X (compareOp .In) (rInKG X.K X.w) := by
  intro pins s σ H x y v u Q I rx ry h
  obtain ⟨z, o, d, rfl, rfl, ⟨es, n, hl, hk, hm, hv⟩, q⟩ := h
  rcases hv with ⟨rfl, e⟩ | ⟨v', u', rfl, e, _⟩
  · exact op_in_kd ⟨hl, hk, hm⟩ pins s σ H _ _ v u Q I rx ry ⟨z, none, rfl, rfl, e, q⟩
  · exact op_in_kd ⟨hl, hk, hm⟩ pins s σ H _ _ v u Q I rx ry ⟨z, some u', rfl, rfl, e, q⟩
theorem w_inKG {K : PySem.W.Frag} {w : World} {z : Str} {o : Option V} {d : Addr} {H : Hp} {Q : VK} (g : KGet K w d z o) (q : Q (.bl o.isSome) H) : rInKG K w (.str z) (.ref d) H Q := ⟨z, o, d, rfl, rfl, g, q⟩
end Co
namespace Co
open PySem PySem.Spec PyProof.Rows L2 RZ
theorem w_dnewK {σ : L2.St} {H : Hp} {Q : VK} (q : ∀ p H', H p = none → Same H H' → H' p = some (.dK []) → Q (.ref p) H') : tDNewK σ H Q := fun p np => q p _ np (Same.new np) upd_same
end Co

set_option Elab.async false
set_option linter.all false
set_option maxRecDepth 100000
set_option maxHeartbeats 2000000
/-! dicts whose keys are nested tuples of texts and ints, held as one object by what is true of it -/
namespace Co
open PySem PySem.Spec PyProof.Rows L2
mutual
/-- the value v is the key k, by the tuples of H -/
def NKv (H : Hp) : NestedKey → V → Prop
  | .none, v => v = .non
  | .num i, v => v = .int i
  | .text x, v => v = .str x
  | .tup ks, v => ∃ a vs, v = .ref a ∧ H a = some (.tup vs) ∧ NKs H ks vs
def NKs (H : Hp) : List NestedKey → List V → Prop
  | [], vs => vs = []
  | k :: ks, vs => ∃ v r, vs = v :: r ∧ NKv H k v ∧ NKs H ks r
end
mutual
theorem NKv.is {P : Program} {w : World} {H : Hp} {h : Heap} (ok : HOk P w H h) : ∀ (k : NestedKey) (v : V) (u : Value), NKv H k v → RelV v u → NestedIs h k u
  | .none, v, u, e, r => by
    rw [NKv] at e
    subst e
    cases (show u = Value.none from r)
    exact .none
  | .num i, v, u, e, r => by
    rw [NKv] at e
    subst e
    obtain ⟨t, rfl⟩ := (show ∃ t, u = Value.int i t from r)
    exact .int _ _
  | .text x, v, u, e, r => by
    rw [NKv] at e
    subst e
    obtain ⟨t, rfl⟩ := (show ∃ t, u = Value.str x t from r)
    exact .text _ _
  | .tup ks, v, u, e, r => by
    rw [NKv] at e
    obtain ⟨a, vs, rfl, ha, hs⟩ := e
    cases (show u = Value.ref a from r)
    obtain ⟨_, its, rel, o, h1, h2, n, h3⟩ := (show ObjOk P w H h a (.tup vs) from ok a _ ha)
    exact .tup h1 h2 h3 (by simpa using NKs.is ok ks vs its hs rel)
theorem NKs.is {P : Program} {w : World} {H : Hp} {h : Heap} (ok : HOk P w H h) : ∀ (ks : List NestedKey) (vs : List V) (us : List Value), NKs H ks vs → Vals vs us → NestedAll h ks us
  | [], vs, us, e, r => by
    rw [NKs] at e
    subst e
    cases r
    exact .nil
  | k :: ks, vs, us, e, r => by
    rw [NKs] at e
    obtain ⟨v, s, rfl, e1, e2⟩ := e
    cases r with
    | cons r1 r2 => exact .cons (NKv.is ok k v _ e1 r1) (NKs.is ok ks s _ e2 r2)
end
/-- tuples stay -/
def Tps (H H' : Hp) : Prop := ∀ a xs, H a = some (.tup xs) → H' a = some (.tup xs)
mutual
theorem NKv.tps {H H' : Hp} (t : Tps H H') : ∀ (k : NestedKey) (v : V), NKv H k v → NKv H' k v
  | .none, _, e => e
  | .num _, _, e => e
  | .text _, _, e => e
  | .tup ks, v, e => by
    rw [NKv] at e ⊢
    obtain ⟨a, vs, rfl, ha, hs⟩ := e
    exact ⟨a, vs, rfl, t _ _ ha, NKs.tps t ks vs hs⟩
theorem NKs.tps {H H' : Hp} (t : Tps H H') : ∀ (ks : List NestedKey) (vs : List V), NKs H ks vs → NKs H' ks vs
  | [], _, e => e
  | k :: ks, vs, e => by
    rw [NKs] at e ⊢
    obtain ⟨v, r, rfl, e1, e2⟩ := e
    exact ⟨v, r, rfl, NKv.tps t k v e1, NKs.tps t ks r e2⟩
end
/-- an entry: its key, the tuple's address, its value (an int) -/
abbrev NEnt := NestedKey × Addr × Int
def nVals (kvs : List NEnt) (xs : List (NestedKey × Addr × Value)) : Prop := Paired (fun (p : NEnt) (q : NestedKey × Addr × Value) => p.1 = q.1 ∧ p.2.1 = q.2.1 ∧ ∃ t, q.2.2 = Value.int p.2.2 t) kvs xs
/-- the dict at a with these entries -/
def NumO (P : Program) (w : World) (a : Addr) (kvs : List NEnt) : HO := HO.ext fun h => kvs.length ≤ sizeLine ∧ (a == sysModules) = false ∧ ∃ xs, nVals kvs xs ∧
  ∃ o es ep, h.get? a = some o ∧ o.ExactDict ∧ o.data = .dict es ep ∧ es.toList = xs.map (entryOfKey (nestedKind P w)) ∧ (xs.map (·.1)).Nodup
theorem numO_ok {P : Program} {w : World} {H : Hp} {h : Heap} {a : Addr} {kvs : List NEnt} {xs : List (NestedKey × Addr × Value)} (z : kvs.length ≤ sizeLine) (hd : (a == sysModules) = false) (r : nVals kvs xs)
    {o : Obj} {es : Array DictEntry} {ep : Nat} (h1 : h.get? a = some o) (h2 : o.ExactDict) (h3 : o.data = .dict es ep) (h4 : es.toList = xs.map (entryOfKey (nestedKind P w))) (h5 : (xs.map (·.1)).Nodup) : ObjOk P w H h a (NumO P w a kvs) :=
  ⟨⟨z, hd, xs, r, o, es, ep, h1, h2, h3, h4, h5⟩, ⟨o, h1⟩, fun _ _ ⟨z, hd, xs, r, o, es, ep, h1, h⟩ k => ⟨z, hd, xs, r, o, es, ep, k _ h1, h⟩⟩
/-- the number of a key -/
def nLook (kvs : List NEnt) (k : NestedKey) : Option Int := (kvs.find? fun e => e.1 = k).map (·.2.2)
def NKeys (H : Hp) (kvs : List NEnt) : Prop := ∀ e ∈ kvs, NKv H e.1 (.ref e.2.1) ∧ e.1.depth ≤ 8
theorem nvals_look {kvs : List NEnt} {xs : List (NestedKey × Addr × Value)} (r : nVals kvs xs) (k : NestedKey) : match nLook kvs k with
    | some n => ∃ p t, atKey xs k = some p ∧ p.2 = Value.int n t
    | none => atKey xs k = none := by
  induction r with
  | nil => rfl
  | @cons p q ps qs h _ ih =>
    obtain ⟨e1, e2, t, e3⟩ := h
    unfold nLook atKey at ih ⊢
    by_cases e : p.1 = k
    · have e' : q.1 = k := by rw [← e1]; exact e
      simp only [List.find?_cons, e, e', decide_true, Option.map_some]
      exact ⟨_, t, rfl, e3⟩
    · have e' : ¬ q.1 = k := by rw [← e1]; exact e
      simp only [List.find?_cons, e, e', decide_false]
      exact ih
theorem numO_rd {P : Program} {w : World} {H : Hp} {h : Heap} {a : Addr} {kvs : List NEnt} (ok : HOk P w H h) (e : H a = some (NumO P w a kvs)) (hk : NKeys H kvs) : kvs.length ≤ sizeLine ∧ (a == sysModules) = false ∧
    ∃ xs, nVals kvs xs ∧ h.DictOfH (nestedKind P w) a xs := by
  obtain ⟨⟨z, hd, xs, r, o, es, ep, h1, h2, h3, h4, h5⟩, _⟩ := (show ObjOk P w H h a (NumO P w a kvs) from ok a _ e)
  refine ⟨z, hd, xs, r, o, es, ep, h1, h2, h3, h4, ?_, h5⟩
  have all : ∀ {l : List NEnt} {m : List (NestedKey × Addr × Value)}, nVals l m → NKeys H l → ∀ x ∈ m, (nestedKind P w).is h x.1 x.2.1 := by
    intro l m r hk
    induction r with
    | nil => intro x hx; exact nomatch hx
    | @cons p q ps qs h _ ih =>
      obtain ⟨e1, e2, _⟩ := h
      intro x hx
      rcases List.mem_cons.mp hx with rfl | hx
      · have g := hk p (List.mem_cons_self ..)
        rw [← e1, ← e2]
        exact ⟨NKv.is ok _ _ _ g.1 rfl, g.2⟩
      · exact ih (fun e m => hk e (List.mem_cons_of_mem _ m)) x hx
  exact all r hk
/-- d.get(k) -/
def rGetN (P : Program) (w : World) : V → List V → Hp → VK → Prop := fun x xs H Q => ∃ (d a : Addr) (kvs : List NEnt) (k : NestedKey), x = .ref d ∧ xs = [.ref a] ∧ H d = some (NumO P w d kvs) ∧ NKeys H kvs ∧ NKv H k (.ref a) ∧ k.depth ≤ 8 ∧
  Q (match nLook kvs k with | some n => .int n | none => .non) H
theorem mt_getN {X : Cx} (hu : X.A.units + 9 < cLine) : MtR X "dict.get" (rGetN X.prog X.w) := by
  intro pins s σ H x xs v us Q I rx rxs h
  obtain ⟨d, a, kvs, k, rfl, rfl, hd, hk, ha, h8, q⟩ := h
  cases rx
  obtain ⟨u, rfl, r⟩ := vals1 rxs
  cases r
  obtain ⟨z, hn, xs', rel, dd⟩ := numO_rd I.hok hd hk
  refine call_meetsIn PySem.F.slot_dict_get dd.typeIs PySem.F.entry_dict_get (PySem.F.args_dict_get_2 _ _) (meetsH_dict_get (nestedKind X.prog X.w) d a hn) ⟨?_, k, xs', ⟨NKv.is I.hok _ _ _ ha rfl, h8⟩, dd, ?_⟩
  · show X.A.in1.units + 8 < cLine
    have : X.A.in1.units ≤ X.A.units + 1 := by first | exact Nat.le_refl _ | exact Nat.le_succ _ | (show X.A.units + 1 ≤ X.A.units + 1; exact Nat.le_refl _)
    omega
  · have l := nvals_look rel k
    cases e : nLook kvs k with
    | some n =>
      rw [e] at l q
      obtain ⟨p, t, l1, l2⟩ := l
      rw [l1]
      show EP X pins σ Q p.2 _
      rw [l2]
      exact ⟨.int n, H, I.tok _, ⟨t, rfl⟩, q⟩
    | none =>
      rw [e] at l q
      rw [l]
      exact ⟨.non, H, I.tok _, rfl, q⟩
/-- {} -/
def tDNewN (P : Program) (w : World) : TE := fun _ H Q => ∀ p, H p = none → Q (.ref p) (upd H p (NumO P w p []))
theorem pe_dnewN {X : Cx} {pos : Pos} : PE X (.Dict [] [] pos) (tDNewN X.prog X.w) := ⟨fun pins s σ H Q I h =>
  wpAny_Dict_empty ⟨.ref s.heap.objs.size, _, I.laid (a := s.heap.objs.size) (o := NumO X.prog X.w s.heap.objs.size []) (t' := s.toks) (fun _ _ q => Heap.get?_push_of_some _ q) (Nat.le_refl _)
    (numO_ok (xs := []) (Nat.zero_le _) (beq_eq_false_iff_ne.mpr (Ne.symm (Nat.ne_of_lt I.big))) .nil (Heap.get?_push_size _ rfl) ⟨rfl, rfl, rfl⟩ rfl rfl List.nodup_nil), rfl, h _ (I.hok.fresh (Nat.le_refl _))⟩⟩
theorem nvals_snoc {kvs : List NEnt} {xs : List (NestedKey × Addr × Value)} (r : nVals kvs xs) {p : NEnt} {q : NestedKey × Addr × Value} (h : p.1 = q.1 ∧ p.2.1 = q.2.1 ∧ ∃ t, q.2.2 = Value.int p.2.2 t) : nVals (kvs ++ [p]) (xs ++ [q]) := by
  induction r with
  | nil => exact .cons h .nil
  | cons a _ ih => exact .cons a ih
/-- d[k] = n, k new -/
def rSetN (P : Program) (w : World) : TSet := fun o i v H Q => ∃ (d a : Addr) (kvs : List NEnt) (k : NestedKey) (n : Int), o = .ref d ∧ i = .ref a ∧ v = .int n ∧ H d = some (NumO P w d kvs) ∧ NKeys H kvs ∧ NKv H k (.ref a) ∧ k.depth ≤ 8 ∧
  nLook kvs k = none ∧ kvs.length < sizeLine ∧ Q (upd H d (NumO P w d (kvs ++ [(k, a, n)])))
theorem set_num {X : Cx} (hu : X.A.units + 9 < cLine) : PSet X (rSetN X.prog X.w) := by
  intro pins s σ H o i v ov iv u Q I ro ri rv h
  obtain ⟨d, a, kvs, k, n, rfl, rfl, rfl, hd, hk, ha, h8, hl, hz, q⟩ := h
  cases (show ov = Value.ref d from ro)
  cases (show iv = Value.ref a from ri)
  obtain ⟨t, rfl⟩ := (show ∃ t, u = Value.int n t from rv)
  obtain ⟨z, hn, xs, rel, dd⟩ := numO_rd I.hok hd hk
  have hz' : xs.length ≤ sizeLine := by rw [← Paired.length rel]; exact z
  have nf : atKey xs k = none := by have l := nvals_look rel k; rw [hl] at l; exact l
  refine wpAny_setItem_heap (k := k) (knd := nestedKind X.prog X.w) (hsz := hz') ?_ ⟨NKv.is I.hok _ _ _ ha rfl, h8⟩ dd fun h' dd' hs => ?_
  · show X.A.in1.units + 8 < cLine
    have : X.A.in1.units ≤ X.A.units + 1 := by first | exact Nat.le_refl _ | exact Nat.le_succ _ | (show X.A.units + 1 ≤ X.A.units + 1; exact Nat.le_refl _)
    omega
  · have e : storedH xs k a (.int n t) = xs ++ [(k, a, .int n t)] := by
      unfold storedH
      rw [if_neg (by simpa using nf)]
    rw [e] at dd'
    obtain ⟨ob, es, ep, hq, h2, h3, h4, _, h5⟩ := dd'
    exact ⟨_, d_write I (by rw [hd]; exact True.intro) hs ⟨ob, hq⟩ (numO_ok (by rw [List.length_append]; simp only [List.length_cons, List.length_nil]; omega) hn (nvals_snoc rel ⟨rfl, rfl, t, rfl⟩) hq h2 h3 h4 h5), q⟩
theorem nLook_snoc {kvs : List NEnt} {k j : NestedKey} {a : Addr} {n : Int} (h : nLook kvs k = none) : nLook (kvs ++ [(k, a, n)]) j = if j = k then some n else nLook kvs j := by
  unfold nLook at h ⊢
  rw [List.find?_append]
  by_cases e : j = k
  · subst e
    have := Option.map_eq_none_iff.mp h
    rw [this, if_pos rfl]
    simp
  · rw [if_neg e]
    cases kvs.find? fun e => e.1 = j with
    | some z => rfl
    | none => simp [List.find?_cons, Ne.symm e]
end Co

set_option Elab.async false
set_option linter.all false
set_option maxRecDepth 100000
set_option maxHeartbeats 4000000
namespace Co
open PySem PySem.Spec PyProof.Rows L2
/-! ### sorted(d) of a dict whose keys are ints, of any size; a walk over a list or a tuple -/
section
variable {X : Cx}
def rSortedDA : List V → Hp → VK → Prop := fun xs H Q => ∃ (a : Addr) (kvs : List (Key × V)) (ks : List Int), xs = [.ref a] ∧ H a = some (.dK kvs) ∧ kvs.map (·.1) = ks.map Sum.inl ∧ ks.length ≤ 1000000 ∧
  ∀ (ys : List Int) (p : Addr) (H' : Hp), ys.Perm ks → ys.Pairwise (· ≤ ·) → H p = none → Same H H' → H' p = some (.lst (ys.map V.int)) → Q (.ref p) H'
theorem keys_ints {vs : List (Key × Value)} {ks : List Int} (e : vs.map (·.1) = ks.map Sum.inl) {acc : List Value} (hl : acc.length = ks.length)
    (each : ∀ (j : Nat) (v : Value), acc[j]? = some v → ∃ (k : Key) (x : Value), vs[j]? = some (k, x) ∧ keyIs k v = true) : IntsAre acc ks := ints_each hl fun j v hv => by
  obtain ⟨k, x, e1, e2⟩ := each j v hv
  have e3 : (ks.map (Sum.inl : Int → Key))[j]? = some k := by rw [← e, List.getElem?_map, e1]; rfl
  rw [List.getElem?_map] at e3
  obtain ⟨y, e4, e5⟩ := Option.map_eq_some_iff.mp e3
  subst e5
  rcases keyIs_shape e2 with ⟨i, t, ek, ev⟩ | ⟨z, t, ek, ev⟩
  · cases ek
    exact ⟨y, t, e4, ev⟩
  · cases ek
theorem cr_sortedDA (hc : X.calm = true) : CallR X (.builtin "sorted") rSortedDA := by
  intro pins s σ H vs0 us Q I r q
  obtain ⟨a, kvs, ks, rfl, hd, hks, hn, q⟩ := q
  rw [Vals.ref1 r]
  obtain ⟨z, lo, vs, rel, dd⟩ := dk_rd I.hok (.of hd)
  obtain ⟨ep, hat⟩ := dd.dictAt
  have hkeys : vs.map (·.1) = ks.map Sum.inl := rel.keys.symm.trans hks
  have hl : vs.length = ks.length := by simpa using congrArg List.length hkeys
  have room : vs.length ≤ sizeLine := by rw [hl, sizeLine_eq]; omega
  refine Calls.call_function_entry kind_sorted plain_sorted entry_sorted (args_sorted1 _) ?_
  unfold Builtin.«sorted»
  refine wpAny_bind (m := checkCount "sorted" 1 1 _) (wpAny_pure (wpAny_bind (PySem.W.kdu_collect (A := X.A.in1) (PySem.W.kdl_dict (knd := mixKind X.prog X.w) (kvs := vs) (ep := ep) lo) (I.ok.hd hc) hat room ?_)))
  intro h' tk acc hk hacc
  have hal : acc.toList.length = ks.length := by rw [Array.length_toList, hacc.1, hl]
  have isI : IntsAre acc.toList ks := keys_ints hkeys hal fun j v e => by
    obtain ⟨k, x, e1, e2⟩ := hacc.2 j v (by rw [← Array.getElem?_toList]; exact e)
    exact ⟨k, x, e1, e2⟩
  have J : Inv X pins σ H { s with heap := h', toks := tk } := I.kept hk
  have hz : acc.toList.length ≤ sizeLine := by rw [hal, sizeLine_eq]; omega
  refine wpAny_bind (wpAny_newList ?_ hz)
  have there : (h'.push (seqObj "list" acc.toList.toArray 0)).get? h'.objs.size = some (seqObj "list" acc.toList.toArray 0) := Heap.get?_push_size _ rfl
  refine wpAny_bind (wpAny_holding (wpAny_call_entry slot_list_sort ⟨_, there, rfl⟩ entry_list_sort (list_sort_treeAny (s := { s with heap := h'.push (seqObj "list" acc.toList.toArray 0), toks := tk }) there isI hz ?_) (args_list_sort _)))
  intro out ys g1 g2 g3
  obtain ⟨c, at1⟩ := sortedHeap_at (vs := acc.toList) (out := out) there
  have free : H h'.objs.size = none := J.hok.fresh (Nat.le_refl _)
  have made : ObjOk X.prog X.w (upd H h'.objs.size (.lst (ys.map V.int))) (sortedHeap (h'.push (seqObj "list" acc.toList.toArray 0)) h'.objs.size acc.toList out) h'.objs.size (.lst (ys.map V.int)) :=
    ⟨by rw [List.length_map, g2.length_eq, sizeLine_eq]; omega, out.toList, c, vals_of_ints g1, by rw [Array.toArray_toList]; exact at1⟩
  refine ⟨_, rfl, wpAny_pure ⟨_, rfl, .ref h'.objs.size, _, J.laid (t' := tk) (fun b u e => ?_) (Nat.le_refl _) made, rfl, q ys _ _ g2 g3 free (Same.new free) upd_same⟩⟩
  have lt := Heap.lt_size e
  rw [sortedHeap_old (Nat.ne_of_lt lt) (by rw [size_push']; exact Nat.lt_succ_of_lt lt)]
  exact Heap.get?_push_of_some _ e
theorem w_sortedDA {a : Addr} {kvs : List (Key × V)} (ks : List Int) {H : Hp} {Q : VK} (h : H a = some (.dK kvs)) (e : kvs.map (·.1) = ks.map Sum.inl) (hl : ks.length ≤ 1000000)
    (q : ∀ (ys : List Int) p H', ys.Perm ks → ys.Pairwise (· ≤ ·) → H p = none → Same H H' → H' p = some (.lst (ys.map V.int)) → Q (.ref p) H') : rSortedDA [.ref a] H Q := ⟨a, kvs, ks, rfl, h, e, hl, q⟩
/-- for x in a list or a tuple -/
def iLT (K : PySem.W.Frag) (tl : TE) : TI := fun σ H R => tl σ H fun x H1 => ∃ a, x = .ref a ∧ (((∃ xs, SqL K H1 a xs) ∧ R (Itl K a) H1) ∨ ((∃ xs, SqT K H1 a xs) ∧ R (Itt K a) H1))
theorem pi_lt {K' : PySem.W.Frag} {tg l : Expr} {tl : TE} (hK : X.K = K') (hl : PE X l tl) : PI X tg l (iLT K' tl) := by
  subst hK
  refine ⟨fun pins s σ H R I h => ?_⟩
  refine thn (hl.run pins s σ H _ I h) fun v s1 ⟨x, H1, I1, r1, a, e, q1⟩ => ?_
  subst e
  cases r1
  have own : ∀ b, b ∈ [s1.heap.objs.size] → FpOk X pins H1 b := fun b hb => by
    have e : b = s1.heap.objs.size := by simpa using hb
    subst e
    exact I1.fpOk (Nat.le_refl _) (I1.hok.fresh (Nat.le_refl _))
  rcases q1 with ⟨⟨xs, hq⟩, q⟩ | ⟨⟨xs, hq⟩, q⟩
  · obtain ⟨its, rv, p, hz⟩ := I1.list hq
    exact wpAny_pyIter_list p.isList ⟨s1.heap.objs.size, [s1.heap.objs.size], _, _, H1, rfl, I1.kept (t' := s1.toks) fun b o e => Heap.get?_push_of_some _ e, turn_list a _, ⟨_, Heap.get?_push_size _ rfl, rfl, rfl⟩, own, q⟩
  · obtain ⟨its, rv, p, hz⟩ := I1.tuple hq
    exact wpAny_pyIter_tuple (show s1.heap.IsTuple a its.toArray from p) ⟨s1.heap.objs.size, [s1.heap.objs.size], _, _, H1, rfl, I1.kept (t' := s1.toks) fun b o e => Heap.get?_push_of_some _ e, turn_tuple a _, ⟨_, Heap.get?_push_size _ rfl, rfl, rfl⟩, own, q⟩
end
def kILT (K : PySem.W.Frag) (R : It → Hp → Prop) : V → Hp → Prop := fun x H1 => ∃ a, x = .ref a ∧ (((∃ xs, SqL K H1 a xs) ∧ R (Itl K a) H1) ∨ ((∃ xs, SqT K H1 a xs) ∧ R (Itt K a) H1))
theorem w_iLT {K : PySem.W.Frag} {tl : TE} {σ : L2.St} {H : Hp} {R : It → Hp → Prop} (q : tl σ H (kILT K R)) : iLT K tl σ H R := q
theorem kILT.l {K : PySem.W.Frag} {R : It → Hp → Prop} {x : V} {H : Hp} (h : kIL K R x H) : kILT K R x H := by obtain ⟨a, e, q⟩ := h; exact ⟨a, e, .inl q⟩
theorem kILT.t {K : PySem.W.Frag} {R : It → Hp → Prop} {x : V} {H : Hp} (h : kIT K R x H) : kILT K R x H := by obtain ⟨a, e, q⟩ := h; exact ⟨a, e, .inr q⟩
/-! ### d.get(k) of a dict with nested keys, as an expression -/
def kGetN (P : Program) (w : World) (ty : TE) (σ : L2.St) (Q : VK) : VK := fun x H1 => ∃ (d : Addr) (kvs : List NEnt), x = .ref d ∧ H1 d = some (NumO P w d kvs) ∧ ty σ H1 fun y H2 => rGetN P w x [y] H2 Q
def tGetN (P : Program) (w : World) (to ty : TE) : TE := fun σ H Q => to σ H (kGetN P w ty σ Q)
theorem pe_getN {X : Cx} {o e : Expr} {to ty : TE} {apos cpos : Pos} (hu : X.A.units + 9 < cLine) (ho : PE X o to) (he : PE X e ty) (m : M1 X o "get" apos e cpos := by first | exact ⟨rfl, rfl, rfl, rfl⟩ | exact ⟨by rfl, by rfl, by rfl, by rfl⟩) :
    PE X (.Call (.Attribute o "get" apos) [e] [] cpos) (tGetN X.prog X.w to ty) := by
  refine ⟨fun pins s σ H Q I h => wpAny_Call_method m.base m.few m.line PySem.F.plainAttrs_dict PySem.F.slot_dict_get PySem.F.type_dict_get (thn (ho.run pins s σ H _ I h) fun v s1 ⟨x, H1, I1, rx, d, kvs, ex, hd, q1⟩ => ?_)⟩
  subst ex
  obtain rfl : v = Value.ref d := rx
  obtain ⟨⟨_, _, _, _, ob, _, _, at1, exact1, _⟩, _⟩ := (show ObjOk X.prog X.w H1 s1.heap d (NumO X.prog X.w d kvs) from I1.hok d _ hd)
  refine ⟨⟨ob, at1, exact1.1⟩, fun b eb => ⟨ob, by cases eb; exact at1, exact1.2.1⟩, ?_⟩
  rw [m.trees]
  refine Calls.callWith_builtin rfl (Calls.evalArgs_plain (Calls.spliced_cons (thn (he.run pins s1 σ H1 _ I1 q1) fun iv s2 ⟨y, H2, I2, ry, q2⟩ => Calls.spliced_nil ?_)))
  exact mt_getN hu pins s2 σ H2 (.ref d) [y] (.ref d) [iv] Q I2 rfl (.cons ry .nil) q2
theorem w_getN {P : Program} {w : World} {to ty : TE} {σ : L2.St} {H : Hp} {Q : VK} (q : to σ H (kGetN P w ty σ Q)) : tGetN P w to ty σ H Q := q
/-- C() of a class that makes objects -/
theorem pe_mkr0 {X : Cx} {k j : Nat} {x : Str} {C : Addr} {sp : Sp} {pos p : Pos} (c : Mkr X.prog X.w X.K X.mg X.base k x C sp) (hr : Room j X.A) (hk : k + 1 ≤ j) (hg : Gl X x) (hdb : (x == ("__debug__" : Str)) = false := by decide) :
    PE X (.Call (.Name x p) [] [] pos) (tMkr C sp tNil) := by
  obtain ⟨f, fd, ps, F, M, b, hm⟩ := c.ex
  have z := pe_make0 (dvs := []) (E := E0) (pos := pos) (p := p) M F (hr.mono hk) hg hm b .nil pass0 hdb
  refine ⟨fun pins s σ H Q I h => z.run pins s σ H Q I ?_⟩
  refine (?_ : tMkr C sp tNil = tMake C sp [] E0 tNil) ▸ h
  unfold tMkr tMake
  simp only [List.append_nil]
theorem w_dnewN {P : Program} {w : World} {σ : L2.St} {H : Hp} {Q : VK} (q : ∀ p H', H p = none → Same H H' → H' p = some (NumO P w p []) → Q (.ref p) H') : tDNewN P w σ H Q := fun p np => q p _ np (Same.new np) upd_same
theorem hu9 {A : Around} {k : Nat} (hr : Room k A) : A.units + 9 < cLine := by have := hr.un; omega
end Co

set_option Elab.async false
set_option linter.all false
set_option maxRecDepth 100000
set_option maxHeartbeats 4000000
open PySem PySem.Spec PyProof.Rows L2 Co
namespace Co
open He
/-- what is named, by levels -/
def lvl (g : Addr → Option Obj) : Nat → List Addr → List Addr
  | 0, as => as
  | n + 1, as => as ++ lvl g n (as.flatMap fun a => match g a with
    | some o => refsD o
    | none => [])
def frN (g : Addr → Option Obj) (n : Nat) : PySem.W.Frag := frG g (lvl g n [mainGlobals])
/-- a def: where it stands, its names, its statement -/
structure Fx where
  at_ : PySem.W.Frag → Addr
  name : Str
  qual : Str
  st : Stmt
def fxObs (K : PySem.W.Frag) (d : Fx) : FnV := match K.lookup (d.at_ K) with
  | some ⟨_, _, .func fd, _⟩ => some (fd.name, fd.qualname, fd.params, fd.body, fd.scope, fd.globals, fd.closure, fd.defaults, fd.builtins)
  | _ => none
def Fx.val (d : Fx) : FnV := some (d.name, d.qual, defArgs d.st, .stmts (defBody d.st), defScope d.st, mainGlobals, [], .none, builtinsNs)
def Fx.ok (K : PySem.W.Frag) (d : Fx) : Bool := PySem.W.keepIn K (.ref (d.at_ K)) && (match K.lookup (d.at_ K) with
  | some ⟨_, _, .func fd, _⟩ => PySem.W.codeIn K fd.code d.qual
  | _ => false)
theorem fx_ok {K : PySem.W.Frag} {d : Fx} (e : fxObs K d = d.val) (c : d.ok K = true) : ∃ fd, Fun K d.name d.qual d.st (d.at_ K) fd := by
  obtain ⟨kp, c2⟩ := ba c
  unfold fxObs at e
  cases q : K.lookup (d.at_ K) with
  | none =>
    rw [q] at c2
    cases c2
  | some o =>
    obtain ⟨oc, od, dt, osl⟩ := o
    rw [q] at c2 e
    cases dt with
    | func fd =>
      obtain ⟨n1, n2, n3, n4, n5, n6, n7, n8, n9, n10, n11, n12, n13, n14, n15⟩ := fd
      have e2 : (some (n1, n2, n3, n4, n5, n6, n7, n8, n15) : FnV) = some (d.name, d.qual, defArgs d.st, .stmts (defBody d.st), defScope d.st, mainGlobals, [], .none, builtinsNs) := e
      simp only [Option.some.injEq, Prod.mk.injEq] at e2
      obtain ⟨h1, h2, h3, h4, h5, h6, h7, h8, h9⟩ := e2
      subst h1 h2 h3 h4 h5 h6 h7 h8 h9
      exact ⟨_, fun_mk (st := d.st) q c2 kp⟩
    | _ => cases c2
/-! ### the Hook -/
abbrev AlZ : Type := Bool × List FnV × List (Option (List (Option (Str × Int))))
def obsZ (cks : List (PySem.W.Frag → Bool)) (fn : List Fx) (ts : List Tab) (K : PySem.W.Frag) : AlZ := ((cks.all fun f => f K) && fn.all fun d => d.ok K, fn.map (fxObs K), ts.map fun t => dicW K (t.1 K))
def valZ (fn : List Fx) (ts : List Tab) (w : World) : AlZ := (true, fn.map Fx.val, ts.map fun t => some (keysIn w.params t.2))
def SaysZ (cks : List (PySem.W.Frag → Bool)) (fn : List Fx) (ts : List Tab) (w : World) (K : PySem.W.Frag) : Prop := obsZ cks fn ts K = valZ fn ts w
def obsZG (n : Nat) (cks : List (PySem.W.Frag → Bool)) (fn : List Fx) (ts : List Tab) (g : Addr → Option Obj) : AlZ := obsZ cks fn ts (frN g n)
def hookZ (n : Nat) (cks : List (PySem.W.Frag → Bool)) (fn : List Fx) (ts : List Tab) : PySem.W.Hook where
  α := AlZ
  obs := fun s => obsZG n cks fn ts s.heap.get?
  val := fun w => valZ fn ts w
  says := fun w h => ∃ K : PySem.W.Frag, K.In h ∧ SaysZ cks fn ts w K
  of := fun _ _ e => ⟨_, frG_in, e⟩
  keeps := fun _ _ _ ⟨K, hK, c⟩ k => ⟨K, PySem.W.Frag.In.keeps hK k, c⟩
theorem obsZG_eq {n : Nat} {cks : List (PySem.W.Frag → Bool)} {fn : List Fx} {ts : List Tab} {g : Addr → Option Obj} {s : Shared} (h : ∀ a, g a = s.heap.get? a) : obsZG n cks fn ts g = (hookZ n cks fn ts).obs s := by
  have e : g = s.heap.get? := funext h
  rw [e] <;> rfl
section
variable {cks : List (PySem.W.Frag → Bool)} {fn : List Fx} {ts : List Tab} {w : World} {K : PySem.W.Frag}
theorem SaysZ.q (c : SaysZ cks fn ts w K) (i : Nat) {f : PySem.W.Frag → Bool} (h : cks[i]? = some f := by rfl) : f K = true := by
  have c1 := (ba (show ((cks.all fun f => f K) && fn.all fun d => d.ok K) = true from congrArg (fun z : AlZ => z.1) c)).1
  exact List.all_eq_true.mp c1 f (List.mem_of_getElem? h)
theorem SaysZ.f (c : SaysZ cks fn ts w K) (i : Nat) {a : PySem.W.Frag → Addr} {n q : Str} {st : Stmt} (h : fn[i]? = some ⟨a, n, q, st⟩ := by rfl) : ∃ fd, Fun K n q st (a K) fd := by
  have c2 := (ba (show ((cks.all fun f => f K) && fn.all fun d => d.ok K) = true from congrArg (fun z : AlZ => z.1) c)).2
  have e : fn.map (fxObs K) = fn.map Fx.val := congrArg (fun z : AlZ => z.2.1) c
  have e2 : (fn.map (fxObs K))[i]? = (fn.map Fx.val)[i]? := by rw [e]
  rw [List.getElem?_map, List.getElem?_map, h] at e2
  exact fx_ok (d := ⟨a, n, q, st⟩) (Option.some.inj e2) (List.all_eq_true.mp c2 _ (List.mem_of_getElem? h))
theorem SaysZ.t (c : SaysZ cks fn ts w K) (i : Nat) {a : PySem.W.Frag → Addr} {ks : List Str} (h : ts[i]? = some (a, ks) := by rfl) : ∃ es n, K.lookup (a K) = some ⟨.type "dict", none, .dict es n, #[]⟩ ∧ PySem.W.KeysLit w.params es.toList ∧ (a K == sysModules) = false := by
  have e : ts.map (fun t => dicW K (t.1 K)) = ts.map fun t => some (keysIn w.params t.2) := congrArg (fun z : AlZ => z.2.2) c
  have e2 : (ts.map fun t => dicW K (t.1 K))[i]? = (ts.map fun t => some (keysIn w.params t.2))[i]? := by rw [e]
  rw [List.getElem?_map, List.getElem?_map, h] at e2
  obtain ⟨es, n, h1, h2, h3⟩ := dicW_ok (Option.some.inj e2)
  exact ⟨es, n, h1, h2, h3⟩
end
/-! ### facts -/
section
variable {K : PySem.W.Frag} {h : Heap} {mg : Str → Option Value}
def nsZ (K : PySem.W.Frag) (a : Addr) (x : Str) (v : Option Value) : Bool := eqO (PySem.W.nsIn K a x) (some v)
theorem zNs {a : Addr} {x : Str} {v : Option Value} (c : nsZ K a x v = true) : PySem.W.nsIn K a x = some v := eqO_ok c
def gloZ (x : Str) (K : PySem.W.Frag) : Bool := (Fa.glo x).ok K
theorem zGlo {x : Str} (c : gloZ x K = true) : PySem.W.nsIn K mainGlobals x = some (some (.ref (ga K x))) := eqO_ok c
theorem zInt (X : K.In h) (G : h.Ns mainGlobals mg) {x : Str} {i : Int} (c : (Fa.int x i).ok K = true) : GV mg x (.int i) := by
  obtain ⟨t, e⟩ := int_ok X G c
  exact ⟨_, e, ⟨_, rfl⟩⟩
theorem zStrG (X : K.In h) (G : h.Ns mainGlobals mg) {x z : Str} (c : (Fa.str x z).ok K = true) : GV mg x (.str z) := by
  obtain ⟨t, e⟩ := str_ok X G c
  exact ⟨_, e, ⟨_, rfl⟩⟩
theorem zFree (X : K.In h) (G : h.Ns mainGlobals mg) {x : Str} (c : (Fa.free x).ok K = true) : mg x = none := free_ok X G c
def strZ (K : PySem.W.Frag) (a : Addr) (k z : Str) : Bool := match PySem.W.nsIn K a k with
  | some (some (.str y _)) => decide (y = z)
  | _ => false
theorem zStr {a : Addr} {k z : Str} (c : strZ K a k z = true) : ∃ t, PySem.W.nsIn K a k = some (some (.str z t)) := by
  unfold strZ at c
  cases e : PySem.W.nsIn K a k with
  | none =>
    rw [e] at c
    cases c
  | some o =>
    rw [e] at c
    cases o with
    | none => cases c
    | some v =>
      cases v with
      | str y t =>
        have ej : y = z := of_decide_eq_true c
        subst ej
        exact ⟨t, rfl⟩
      | _ => cases c
def tupZ (K : PySem.W.Frag) (a : Addr) (vs : List V) : Bool := match K.lookup a with
  | some ⟨.type c, none, .seq its _, _⟩ => decide (c = "tuple") && (decide (its.size ≤ sizeLine) && relAll vs its.toList)
  | _ => false
theorem zTup {a : Addr} {vs : List V} (c : tupZ K a vs = true) : ∃ it n sl, K.lookup a = some ⟨.type "tuple", none, .seq it n, sl⟩ ∧ it.size ≤ sizeLine ∧ Vals vs it.toList := by
  unfold tupZ at c
  cases q : K.lookup a with
  | none =>
    rw [q] at c
    cases c
  | some o =>
    obtain ⟨oc, od, dt, osl⟩ := o
    rw [q] at c
    cases oc with
    | type c' =>
      cases od with
      | none =>
        cases dt with
        | seq its n =>
          obtain ⟨h1, h2⟩ := ba (show (decide (c' = "tuple") && (decide (its.size ≤ sizeLine) && relAll vs its.toList)) = true from c)
          obtain ⟨h3, h4⟩ := ba h2
          have e1 : c' = "tuple" := of_decide_eq_true h1
          subst e1
          exact ⟨its, n, osl, rfl, of_decide_eq_true h3, relAll_ok h4⟩
        | _ => cases c
      | some d => cases dt <;> cases c
    | _ => cases od <;> cases dt <;> cases c
/-- a tuple's item, an object -/
def itA (K : PySem.W.Frag) (a : Addr) (i : Nat) : Addr := match K.lookup a with
  | some ⟨_, _, .seq its _, _⟩ => (match its.toList[i]? with
    | some (.ref b) => b
    | _ => 0)
  | _ => 0
theorem meth1 {C : Addr} {m : Str} {f : Addr} (M : Meth K C m f) : PySem.W.findIn K (.ref C) m = some (some (.ref f)) := M.at_
theorem meth2 {C : Addr} {m : Str} {f : Addr} (M : Meth K C m f) : PySem.W.isFn K (.ref f) = true := M.fn
/-! ### defs -/
section
variable {x q : Str} {st : Stmt} {ps : List Str} {f : Addr}
theorem zS1 (X : K.In h) (G : h.Ns mainGlobals mg) (a : PySem.W.nsIn K mainGlobals x = some (some (.ref f))) (F : ∃ fd, Fun K x x st f fd)
    (hb : ∀ (kV doc pm : Value) (an : Option Addr) (cdv ct : Value) (us : List Value), us.length = ps.length → bindArgs (PySem.W.fnOf x x (defArgs st) (defBody st) (defScope st) .none kV doc pm an cdv ct) ⟨us, []⟩ = pure (ps.zip us)) : St1 K mg x st ps := by
  obtain ⟨fd, F⟩ := F
  exact ⟨f, fd, F, F.binds hb, PySem.W.mg_of X G a⟩
theorem zSF (F : ∃ fd, Fun K q q st f fd)
    (hb : ∀ (kV doc pm : Value) (an : Option Addr) (cdv ct : Value) (us : List Value), us.length = ps.length → bindArgs (PySem.W.fnOf q q (defArgs st) (defBody st) (defScope st) .none kV doc pm an cdv ct) ⟨us, []⟩ = pure (ps.zip us)) : StF K q st ps f := by
  obtain ⟨fd, F⟩ := F
  exact ⟨fd, F, F.binds hb⟩
theorem zSA (X : K.In h) (G : h.Ns mainGlobals mg) (a : PySem.W.nsIn K mainGlobals x = some (some (.ref f))) (F : ∃ fd, Fun K q q st f fd)
    (hb : ∀ (kV doc pm : Value) (an : Option Addr) (cdv ct : Value) (us : List Value), us.length = ps.length → bindArgs (PySem.W.fnOf q q (defArgs st) (defBody st) (defScope st) .none kV doc pm an cdv ct) ⟨us, []⟩ = pure (ps.zip us)) : StA K mg x q st ps := by
  obtain ⟨fd, F⟩ := F
  exact ⟨f, fd, F, F.binds hb, PySem.W.mg_of X G a⟩
theorem zSK {ks : List Str} {n : Nat} (X : K.In h) (G : h.Ns mainGlobals mg) (a : PySem.W.nsIn K mainGlobals x = some (some (.ref f))) (F : ∃ fd, Fun K x x st f fd)
    (hb : ∀ (kV doc pm : Value) (an : Option Addr) (cdv ct : Value) (us ws : List Value), us.length = n → ws.length = ks.length → bindArgs (PySem.W.fnOf x x (defArgs st) (defBody st) (defScope st) .none kV doc pm an cdv ct) ⟨us, ks.zip ws⟩ = pure (ps.zip (us ++ ws))) : StK K mg x st ps n ks := by
  obtain ⟨fd, F⟩ := F
  have F' := F
  obtain ⟨oc, od, kV, doc, pm, an, cdv, ct, osl, rfl, lk, hcd⟩ := F.ex
  exact ⟨f, _, F', ⟨fun s us ws _ h1 h2 => .of_eq (hb kV doc pm an cdv ct us ws h1 h2), fun r rz => r.append rz⟩, PySem.W.mg_of X G a⟩
theorem zSM {C : Addr} {m : Str} (a : PySem.W.findIn K (.ref C) m = some (some (.ref f))) (i : PySem.W.isFn K (.ref f) = true) (F : ∃ fd, Fun K m q st f fd)
    (hb : ∀ (kV doc pm : Value) (an : Option Addr) (cdv ct : Value) (us : List Value), us.length = ps.length → bindArgs (PySem.W.fnOf m q (defArgs st) (defBody st) (defScope st) .none kV doc pm an cdv ct) ⟨us, []⟩ = pure (ps.zip us)) : StM K C m q st ps := by
  obtain ⟨fd, F⟩ := F
  exact ⟨f, fd, F, F.binds hb, a, i, F.kp⟩
theorem zSI {C : Addr} (mx : mg x = some (.ref C)) (M : Mk K C f) (F : ∃ fd, Fun K "__init__" q st f fd)
    (hb : ∀ (kV doc pm : Value) (an : Option Addr) (cdv ct : Value) (us : List Value), us.length = ps.length → bindArgs (PySem.W.fnOf "__init__" q (defArgs st) (defBody st) (defScope st) .none kV doc pm an cdv ct) ⟨us, []⟩ = pure (ps.zip us)) : StI K mg x C q st ps := by
  obtain ⟨fd, F⟩ := F
  exact ⟨f, fd, F, F.binds hb, M, mx⟩
end
end
end Co
namespace Co
open PySem PySem.Spec PyProof.Rows L2
/-- walk_ofG, K given by the head -/
theorem walk_ofZ {l : PySem.W.OpenLaw} {n : Nat} {q : Program} {loose : List Str} {XP : (Str → Option Value) → Heap → Prop} {YP : World → Heap → Prop} {d : DefRec} {x : Str}
    (hn : l.most = some n) (hn2 : n ≤ sizeLine) (hdf : d.params.defaults = [])
    (F : ∀ (w : World) (mg : Str → Option Value) (fa : Addr) (h : Heap), YP w h → h.Ns mainGlobals mg → mg d.name = some (.ref fa) →
      ∃ (K : PySem.W.Frag) (fd : FuncData) (sp : Sp), K.In h ∧ (∀ (s : Shared) (u : Value), BindsTo s fd ⟨[u], []⟩ [(x, u)]) ∧
        (∀ (H : Hp) (a : Addr) (ns : List Int), ns.length ≤ n → Only H → SqL K H a (ns.map V.int) → sp [.ref a] H (fun v _ => v = .bl true) E0) ∧
        ∀ base : Heap, K.In base → base.Ns mainGlobals mg → RunG l.prog w K mg base fa fd x sp) :
    PySem.W.WalkO q loose XP YP l.row.toRowW d [] (fun f vs => PySem.call f vs) := by
  refine Att.attach_call hn hdf fun w _ s1 mg mb fa o pm cd doc a vs ns G Y _ _ _ hmg hobj hints hlen hg => ?_
  obtain ⟨K, fd, sp, KX, hb, hsp, hF⟩ := F w mg fa _ Y G.T.g hmg
  exact law_callG KX G.T.g G.T.b G.T.builtins G.T.nolimit hg hobj hints (Nat.le_trans hlen hn2) hF hb fun H hO hS => hsp H a ns hlen hO hS
end Co
namespace Co
open He HandSHeadRun PySem.W PySem.Calls
section
variable {p q : Program} {cks : List (PySem.W.Frag → Bool)} {fn : List Fx} {ts : List Tab} {n M : Nat} {loose : List PySem.Str} {r : PySem.W.OpenRow} {w : World}
noncomputable def KT (n : Nat) (s : PySem.W.SharedT) : PySem.W.Frag := frN (getT s) n
/-- what holds behind the top -/
noncomputable abbrev lookZ (r : PySem.W.OpenRow) (w : World) (s : PySem.W.SharedT) : Bool := looksF r.prog (boot_heap w.params) s.abs
/-- the run's state, looked at -/
noncomputable def lookEnd {α : Type} (r : PySem.W.OpenRow) (M : Nat) (w : World) (os : OsState) (f : PySem.W.SharedT → α) (v : α) : Prop := (endF (stepQ (denQ tabQ) r.prog w) M r.prog w os).map f = some v
theorem runZ
    (e1 : ∀ os, lookEnd r M w os (fun s => (lookZ r w s, seenQ q loose (PySem.importedModules r.prog.main.body) (fun s => PySem.W.xlAt q [] s && PySem.W.recOk r.toRowW.records s) s.abs)) (true, PySem.W.openGood q loose))
    (e2 : ∀ os, lookEnd r M w os (fun s => cks.all fun f => f (KT n s)) true)
    (e3 : ∀ os, lookEnd r M w os (fun s => (fn.all (fun d => d.ok (KT n s)), fn.map (fxObs (KT n s)), ts.map fun t => dicW (KT n s) (t.1 (KT n s)))) (true, fn.map Fx.val, ts.map fun t => some (keysIn w.params t.2))) :
    RunEq r q (hookZ n cks fn ts) (fun s => obsZG n cks fn ts (getT s)) M loose w := by
  intro os
  have h1 := e1 os
  have h2 := e2 os
  have h3 := e3 os
  unfold lookEnd at h1 h2 h3
  cases q : endF (stepQ (denQ tabQ) r.prog w) M r.prog w os with
  | none =>
    rw [q] at h1
    cases h1
  | some s =>
    rw [q] at h1 h2 h3
    obtain ⟨h11, h12⟩ := Prod.mk.inj (Option.some.inj h1)
    have h2' := Option.some.inj h2
    obtain ⟨h31, h3'⟩ := Prod.mk.inj (Option.some.inj h3)
    obtain ⟨h32, h33⟩ := Prod.mk.inj h3'
    show some (_, _, _) = some (_, _, _)
    refine congrArg some (Prod.ext h11 (Prod.ext h12 (Prod.ext ?_ (Prod.ext h32 h33))))
    show ((cks.all fun f => f (KT n s)) && fn.all fun d => d.ok (KT n s)) = true
    have h2'' : (cks.all fun f => f (KT n s)) = true := h2'
    have h31' : (fn.all fun d => d.ok (KT n s)) = true := h31
    rw [h2'', h31']
    rfl
end
end Co

set_option Elab.async false
set_option linter.all false
set_option maxRecDepth 100000
set_option maxHeartbeats 4000000
open PySem PySem.Spec PyProof.Rows L2 Co
namespace Co
/-! for x in reversed(a list) -/
def kRv (K : PySem.W.Frag) (R : It → Hp → Prop) : List V → Hp → Prop := fun vs H1 => ∃ (a : Addr) (xs : List V), vs = [.ref a] ∧ SqL K H1 a xs ∧ R (Itv K a xs.length) H1
theorem w_iRv {K : PySem.W.Frag} {ta : TA} {σ : L2.St} {H : Hp} {R : It → Hp → Prop} (q : ta σ H (kRv K R)) : iRev K ta σ H R := q
theorem w_forRv {K : PySem.W.Frag} {g : TG} {tb : TS} {D : Ends} {σ : L2.St} {H : Hp} {a : Addr} (xs : List V) (Pv : Nat → L2.St → Hp → Prop) (hS : SqL K H a xs) (h0 : Pv 0 σ H) (hq : ∀ i σ H, Pv i σ H → SqL K H a xs)
    (hs : ∀ (i : Nat) (x : V) (σ : L2.St) (H : Hp), i < xs.length → xs[xs.length - 1 - i]? = some x → Pv i σ H → g x σ H fun σ2 H2 => tb { D with nx := Pv (i + 1), ct := Pv (i + 1), bk := D.nx } σ2 H2) (hd : ∀ σ H, Pv xs.length σ H → D.nx σ H) : kRv K (kFor g tb D σ) [.ref a] H :=
  ⟨a, xs, rfl, hS, RT.for_Itv Pv h0 hq hs hd⟩
end Co


set_option Elab.async false
set_option linter.all false
set_option maxRecDepth 100000
set_option maxHeartbeats 4000000
open PySem PySem.Spec PyProof.Rows L2 Co
local macro_rules | `(tactic| walk_at "side") => `(tactic| first | assumption | (refine wide_div (b := 40) ?_ (show _ < 1099511627776 from ?_) (by decide) (by decide) <;> omega) | (dsimp only [CDiv, CPow, CMul, CDivW, CMulW]; omega) | omega | decide)
local macro_rules | `(tactic| walk_at "w1") => `(tactic| first
  | ((with_reducible refine' w_var ?hv ?_); (case hv => exact rfl))
  | (with_reducible refine w_c ?_)
  | (with_reducible refine w_op ?_)
  | (with_reducible refine w_un ?_)
  | (with_reducible refine w_I0 ?_)
  | (with_reducible refine w_p32 ?_)
  | (with_reducible refine w_p31 ?_)
  | (with_reducible refine w_p26 ?_)
  | (with_reducible refine w_p22 ?_)
  | (with_reducible refine w_p20 ?_)
  | (with_reducible refine w_p18 ?_)
  | (with_reducible refine w_p17 ?_)
  | (with_reducible refine w_p16 ?_)
  | (with_reducible refine w_p14 ?_)
  | (with_reducible refine w_p13 ?_)
  | ((with_reducible refine w_I ?hc ?_); (case hc => walk_at "side"))
  | (with_reducible refine w_U ?_)
  | (with_reducible refine w_eqI ?_)
  | (with_reducible refine w_neI ?_)
  | (with_reducible refine w_eqS ?_)
  | ((with_reducible refine w_eq ?hc ?_); (case hc => exact rfl))
  | ((with_reducible refine w_ne ?hc ?_); (case hc => exact rfl))
  | (with_reducible refine w_test ?_)
  | (with_reducible refine w_B ?_)
  | (with_reducible refine w_bl ?_)
  | (with_reducible refine w_if ?_)
  | (with_reducible refine w_ifB ?_)
  | (with_reducible refine w_isB ?_)
  | (with_reducible refine w_notB ?_)
  | (with_reducible refine w_isiInt ?_)
  | (with_reducible refine w_isiIntB ?_)
  | (with_reducible refine w_andT ?_)
  | (with_reducible refine w_orT ?_)
  | (with_reducible refine w_notT ?_)
  | (with_reducible refine w_andV ?_)
  | (with_reducible refine w_orV ?_)
  | (with_reducible refine w_notV ?_)
  | (with_reducible refine w_chain ?_)
  | (with_reducible refine w_seq ?_)
  | (with_reducible refine w_next ?_)
  | (with_reducible refine w_ret ?_)
  | (with_reducible refine w_retN ?_)
  | (with_reducible refine w_ifS ?_)
  | (with_reducible refine w_asg ?_)
  | (with_reducible refine w_name ?_)
  | (with_reducible refine w_drop ?_)
  | (with_reducible refine w_nil ?_)
  | (with_reducible refine w_cons ?_)
  | (with_reducible refine w_call ?_)
  | (with_reducible refine w_cb ?_)
  | (with_reducible refine w_sub ?_)
  | (with_reducible refine w_gNil ?_)
  | (with_reducible refine w_gCons ?_)
  | ((with_reducible refine' w_gTup ?hh ?hn ?_); (case hh => assumption); (case hn => exact rfl))
  | (with_reducible refine w_for ?_)
  | (with_reducible refine w_iL ?_)
  | (with_reducible refine w_iT ?_)
  | (with_reducible refine w_rng1 ?_)
  | (with_reducible refine w_rng2 ?_)
  | (with_reducible refine w_lc ?_)
  | (with_reducible refine w_zST ?_)
  | (with_reducible refine w_sc ?_)
  | ((with_reducible refine' w_aug ?hh ?_); (case hh => exact rfl))
  | (with_reducible refine w_ipI ?_)
  | (with_reducible refine w_iSt ?_)
  | (with_reducible refine w_sl ?_)
  | (with_reducible refine w_part ?_)
  | (with_reducible refine w_noPart ?_)
  | (with_reducible refine w_exI ?_)
  | (with_reducible refine w_m1 ?_)
  | (with_reducible refine w_isS ?_)
  | (with_reducible refine w_starts ?_)
  | (with_reducible refine w_bm ?_)
  | ((with_reducible refine' w_tyL ?hh ?_); (case hh => assumption))
  | (with_reducible refine w_star ?_)
  | (with_reducible refine w_inSg ?_)
  | (with_reducible refine w_yes ?_)
  | (with_reducible refine w_tup ?_)
  | (with_reducible refine w_lst ?_)
  | ((with_reducible refine' w_ixL ?hh ?ha ?_); (case hh => assumption); (case ha => exact rfl))
  | ((with_reducible refine' w_ixT ?hh ?ha ?_); (case hh => assumption); (case ha => exact rfl))
  | ((with_reducible refine' w_setL ?hh ?ha ?_); (case hh => assumption); (case ha => exact rfl))
  | ((with_reducible refine' w_lenL ?hh ?_); (case hh => assumption))
  | (with_reducible refine w_int1 ?_)
  | (with_reducible refine w_abs ?_)
  | (with_reducible refine w_nT ?_)
  | (with_reducible refine w_nF ?_)
  | (with_reducible refine w_itT ?_)
  | (with_reducible refine w_itF ?_)
  | ((with_reducible refine w_spI1 ?hc ?_); (case hc => walk_at "side"))
  | ((with_reducible refine w_spI2 ?hc ?_); (case hc => walk_at "side")))
local macro_rules | `(tactic| walk_at "ws") => `(tactic| repeat (walk_at "w1"))
local macro_rules | `(tactic| walk_at "wd") => `(tactic| repeat (first | walk_at "w1" | (refine w_decT ?hd ?_; (case hd => decide)) | (refine w_decF ?hd ?_; (case hd => decide))))
local macro_rules | `(tactic| walk_at "wr") => `(tactic| repeat (first | walk_at "w1" | (refine w_ndecF rfl ?_)))

namespace K30
def topS (i : Nat) : Stmt := PySem.Challenge.pw_restitch_k30_terms_are_values.main.body.getD i (.Pass ⟨0, 0, 0, 0⟩)
abbrev s_wall : Stmt := topS 0
abbrev s_plain_op : Stmt := topS 5
abbrev s_signed : Stmt := topS 8
abbrev s_add : Stmt := topS 9
abbrev s_sub : Stmt := topS 10
abbrev s_mul : Stmt := topS 41
abbrev s_and : Stmt := topS 35
abbrev s_or : Stmt := topS 37
abbrev s_xor : Stmt := topS 39
abbrev s_shl : Stmt := topS 19
abbrev s_shr : Stmt := topS 20
abbrev s_sar : Stmt := topS 21
abbrev s_slt : Stmt := topS 22
abbrev s_sltu : Stmt := topS 23
abbrev s_divu : Stmt := topS 45
abbrev s_remu : Stmt := topS 47
abbrev s_compute : Stmt := topS 29
abbrev s_Pool : Stmt := topS 33
abbrev s_Pool_init : Stmt := inClass (topS 33) 0
abbrev s_Pool_term : Stmt := inClass (topS 33) 1
abbrev s_Pool_word : Stmt := inClass (topS 33) 2
abbrev s_Pool_node : Stmt := inClass (topS 33) 3
abbrev s_Pool_word_of : Stmt := inClass (topS 33) 4
abbrev s_Pool_normal : Stmt := inClass (topS 33) 5
abbrev s_Pool_parts_of_operation : Stmt := inClass (topS 33) 6
abbrev s_Pool_total : Stmt := inClass (topS 33) 7
abbrev s_Pool_linear : Stmt := inClass (topS 33) 8
abbrev s_Pool_sum_of : Stmt := inClass (topS 33) 9
abbrev s_Pool_settled : Stmt := inClass (topS 33) 10
abbrev s_Pool_inside : Stmt := inClass (topS 33) 11
abbrev s_Pool_made_again : Stmt := inClass (topS 33) 12
abbrev s_Pool_added_up : Stmt := inClass (topS 33) 13
abbrev s_Pool_value_of : Stmt := inClass (topS 33) 14
abbrev s_parts_of_node : Stmt := topS 34
abbrev s_and_1 : Stmt := topS 13
abbrev s_or_1 : Stmt := topS 15
abbrev s_xor_1 : Stmt := topS 17
abbrev s_mul_1 : Stmt := topS 11
abbrev s_shift : Stmt := topS 43
abbrev s_less : Stmt := topS 44
abbrev s_divu_1 : Stmt := topS 24
abbrev s_remu_1 : Stmt := topS 26
abbrev s_law_draw : Stmt := topS 51
abbrev s_law_take : Stmt := topS 52
abbrev s_law_signed : Stmt := topS 53
abbrev s_law_compute : Stmt := topS 54
abbrev s_law_holds : Stmt := topS 55
abbrev s_law_word : Stmt := topS 56
abbrev s_law_part : Stmt := topS 57
abbrev s_law_lists : Stmt := topS 58
abbrev s_law_leaf_value : Stmt := topS 59
abbrev s_law_sum_right : Stmt := topS 60
abbrev s_law : Stmt := topS 61
theorem sc_law_draw : FnScope ["script", "seed", "cell"] ["script"] (defScope s_law_draw) := ⟨rfl, rfl, rfl, by decide +kernel, rfl, by decide +kernel, by decide +kernel⟩
theorem sc_law_take : FnScope ["draw", "many", "found"] ["draw", "many"] (defScope s_law_take) := ⟨rfl, rfl, rfl, by decide +kernel, rfl, by decide +kernel, by decide +kernel⟩
/-! drawing -/
def mabs (n : Int) : Int := if n < 0 then -n else n
theorem mabs_nn (n : Int) : 0 ≤ mabs n := by unfold mabs; split <;> omega
def DrawC (H : Hp) (d c : Addr) : Prop := ∃ (cs : List Int) (i cur seed : Int), H d = some (.lst [.ref c, .int i, .int cur, .int seed]) ∧ H c = some (.lst (cs.map V.int)) ∧ c ≠ d ∧ -1 ≤ i ∧ 0 ≤ cur ∧ 0 ≤ seed ∧ seed < 2147483647 ∧ ∀ x ∈ cs, 0 ≤ x
theorem DrawC.keep {H H' : Hp} {d c : Addr} (h : DrawC H d c) (s1 : ∀ o, H d = some o → H' d = some o) (s2 : ∀ o, H c = some o → H' c = some o) : DrawC H' d c := by
  obtain ⟨cs, i, cur, seed, hd, hc, r⟩ := h
  exact ⟨cs, i, cur, seed, s1 _ hd, s2 _ hc, r⟩
theorem DrawC.same {H H' : Hp} {d c : Addr} (h : DrawC H d c) (s : Same H H') : DrawC H' d c := h.keep (s d) (s c)
theorem DrawC.ne {H : Hp} {d c p : Addr} (h : DrawC H d c) (np : H p = none) : p ≠ d := by
  obtain ⟨cs, i, cur, seed, e, _⟩ := h
  exact (ne_of_none e np).symm
theorem DrawC.nec {H : Hp} {d c p : Addr} (h : DrawC H d c) (np : H p = none) : p ≠ c := by
  obtain ⟨cs, i, cur, seed, _, e, _⟩ := h
  exact (ne_of_none e np).symm
def spDraw (K : PySem.W.Frag) : Sp := fun vs H Q _ => ∃ (a : Addr) (ns : List Int), vs = [.ref a] ∧ SqL K H a (ns.map V.int) ∧ ns.length ≤ 63 ∧ ∀ (d c : Addr) H', H d = none → H c = none → Same H H' → DrawC H' d c → Q (.ref d) H'
def spTake : Sp := fun vs H Q _ => ∃ (d c : Addr) (m : Int), vs = [.ref d, .int m] ∧ DrawC H d c ∧ 0 < m ∧ m ≤ 4294967296 ∧ ∀ (r : Int) H', 0 ≤ r → r < m → DrawC H' d c → But d H H' → Q (.int r) H'
theorem w_take {H : Hp} {Q : VK} {E : XK} {d c : Addr} {m : Int} (hd : DrawC H d c) (h0 : 0 < m) (h1 : m ≤ 4294967296) (q : ∀ (r : Int) H', 0 ≤ r → r < m → DrawC H' d c → But d H H' → Q (.int r) H') : spTake [.ref d, .int m] H Q E := ⟨d, c, m, rfl, hd, h0, h1, q⟩
section
variable {P : Program} {w : World} {K : PySem.W.Frag} {mg : Str → Option Value} {base : Heap}
theorem ok_take (b_int : mg "int" = none) (b_abs : mg "abs" = none) (b_len : mg "len" = none) (Z : St1 K mg "_law_take" s_law_take ["draw", "many"]) : Cd P w K mg base 1 "_law_take" spTake := by
  refine Z.cd sc_law_take (fun vs H Q E h => by obtain ⟨d, c, m, rfl, _⟩ := h; rfl) (fun f cdv A outer s H vs Q E hr h => ?_)
  obtain ⟨d, c, m, rfl, ⟨cs, i, cur, seed, hd, hc, ncd, hi, hcur, hs0, hs1, hcs⟩, hm0, hm1, q⟩ := h
  refine ⟨_, (Evl.pss_cut (ps_if (pt_cmpR op_eq (pe_ix ix_list (pv 0) pe_int (fun _ _ => rfl)) pe_int (nomark _)) (pss_cons (ps_asg (pe_op op_add (pe_ix ix_list (pv 0) pe_int (fun _ _ => rfl)) pe_int) (pg_sub (pv 0) pe_int set_list))
      (Evl.pss_cut (ps_if (pt_cmpR op_lt (pe_ix ix_list (pv 0) pe_int (fun _ _ => rfl)) (pe_callB call_lenQ (by rfl) b_len PySem.boot_len (pa_cons (pe_ix ix_list (pv 0) pe_int (fun _ _ => rfl)) pa_nil)) (nomark _)) (pss_one (ps_asg (pe_ix ix_list (pe_ix ix_list (pv 0) pe_int (fun _ _ => rfl)) (pe_ix ix_list (pv 0) pe_int (fun _ _ => rfl)) (fun _ _ => rfl)) (pg_sub (pv 0) pe_int set_list))) pss_nil)
      (pss_one (ps_if (pt_cmpR op_eq (pe_ix ix_list (pv 0) pe_int (fun _ _ => rfl)) pe_int (nomark _)) (pss_cons (ps_asg (pe_op op_mod (pe_callTy call_intQ (by rfl) b_int (by decide +kernel) (pa_cons (pe_op op_add (pe_op op_mul (pe_ix ix_list (pv 0) pe_int (fun _ _ => rfl)) pe_int) pe_int) pa_nil)) pe_int) (pg_sub (pv 0) pe_int set_list))
      (pss_one (ps_asg (pe_ix ix_list (pv 0) pe_int (fun _ _ => rfl)) (pg_sub (pv 0) pe_int set_list)))) pss_nil)))) pss_nil)
      (pss_cons (ps_set (i := 2) sc_law_take.nd rfl (.inl rfl) (pe_op op_mod (pe_callTy call_intQ (by rfl) b_int (by decide +kernel) (pa_cons (pe_ix ix_list (pv 0) pe_int (fun _ _ => rfl)) pa_nil)) (pv 1)))
      (pss_cons (ps_asg (pe_op op_fdivW (pe_ix ix_list (pv 0) pe_int (fun _ _ => rfl)) (pv 1)) (pg_sub (pv 0) pe_int set_list))
      (pss_one (ps_ret (pv 2)))))), ?_⟩
  refine Evl.q_cut (M := fun σ' H' => σ' = [some (.ref d), some (.int m), none] ∧ But d H H' ∧ ∃ i' cur' seed', H' d = some (.lst [.ref c, .int i', .int cur', .int seed']) ∧ H' c = some (.lst (cs.map V.int)) ∧ -1 ≤ i' ∧ 0 ≤ cur' ∧ 0 ≤ seed' ∧ seed' < 2147483647) ?_ ?_
  · (with_reducible refine w_ifS ?_)
    (with_reducible refine w_test ?_)
    (with_reducible refine w_op ?_)
    (with_reducible refine w_op ?_)
    ((with_reducible refine' w_var ?hv ?_); (case hv => exact rfl))
    (with_reducible refine w_c ?_)
    ((with_reducible refine' w_ixL ?hh ?ha ?_); (case hh => assumption); (case ha => exact rfl))
    (with_reducible refine w_c ?_)
    (with_reducible refine w_eqI ?_)
    (with_reducible refine w_bl ?_)
    refine w_dec (fun e => ?_) (fun e => ?_)
    · (with_reducible refine w_seq ?_)
      (with_reducible refine w_asg ?_)
      (with_reducible refine w_op ?_)
      (with_reducible refine w_op ?_)
      ((with_reducible refine' w_var ?hv ?_); (case hv => exact rfl))
      (with_reducible refine w_c ?_)
      ((with_reducible refine' w_ixL ?hh ?ha ?_); (case hh => assumption); (case ha => exact rfl))
      (with_reducible refine w_c ?_)
      (with_reducible refine w_I0 ?_)
      (with_reducible refine w_sub ?_)
      ((with_reducible refine' w_var ?hv ?_); (case hv => exact rfl))
      (with_reducible refine w_c ?_)
      ((with_reducible refine' w_setL ?hh ?ha ?_); (case hh => assumption); (case ha => exact rfl))
      intro H1 hd1 bt1
      replace hd1 : H1 d = some (.lst [.ref c, .int (i + 1), .int cur, .int seed]) := hd1
      have hc1 : H1 c = some (.lst (cs.map V.int)) := bt1 c _ ncd hc
      skip
      refine Evl.q_cut (M := fun σ' H' => σ' = [some (.ref d), some (.int m), none] ∧ But d H H' ∧ ∃ cur', H' d = some (.lst [.ref c, .int (i + 1), .int cur', .int seed]) ∧ 0 ≤ cur') ?_ ?_
      · (with_reducible refine w_ifS ?_)
        (with_reducible refine w_test ?_)
        (with_reducible refine w_op ?_)
        (with_reducible refine w_op ?_)
        ((with_reducible refine' w_var ?hv ?_); (case hv => exact rfl))
        (with_reducible refine w_c ?_)
        ((with_reducible refine' w_ixL ?hh ?ha ?_); (case hh => assumption); (case ha => exact rfl))
        (with_reducible refine w_cb ?_)
        (with_reducible refine w_cons ?_)
        (with_reducible refine w_op ?_)
        ((with_reducible refine' w_var ?hv ?_); (case hv => exact rfl))
        (with_reducible refine w_c ?_)
        ((with_reducible refine' w_ixL ?hh ?ha ?_); (case hh => assumption); (case ha => exact rfl))
        (with_reducible refine w_nil ?_)
        ((with_reducible refine' w_lenL ?hh ?_); (case hh => assumption))
        (with_reducible refine w_I0 ?_)
        (with_reducible refine w_bl ?_)
        refine w_dec (fun e2 => ?_) (fun e2 => ?_)
        · (with_reducible refine w_asg ?_)
          (with_reducible refine w_op ?_)
          (with_reducible refine w_op ?_)
          ((with_reducible refine' w_var ?hv ?_); (case hv => exact rfl))
          (with_reducible refine w_c ?_)
          ((with_reducible refine' w_ixL ?hh ?ha ?_); (case hh => assumption); (case ha => exact rfl))
          (with_reducible refine w_op ?_)
          ((with_reducible refine' w_var ?hv ?_); (case hv => exact rfl))
          (with_reducible refine w_c ?_)
          ((with_reducible refine' w_ixL ?hh ?ha ?_); (case hh => assumption); (case ha => exact rfl))
          have l1 : (cs.map V.int).length = cs.length := List.length_map ..
          have hlt : (i + 1).toNat < cs.length := by omega
          refine w_ixL (v := .int cs[(i + 1).toNat]) hc1 (atI_of (by omega) ?_) ?_
          · rw [List.getElem?_map, List.getElem?_eq_getElem hlt]; rfl
          (with_reducible refine w_sub ?_)
          ((with_reducible refine' w_var ?hv ?_); (case hv => exact rfl))
          (with_reducible refine w_c ?_)
          ((with_reducible refine' w_setL ?hh ?ha ?_); (case hh => assumption); (case ha => exact rfl))
          intro H2 hd2 bt2
          skip
          exact ⟨rfl, bt1.trans bt2, _, hd2, hcs _ (List.getElem_mem hlt)⟩
        · (with_reducible refine w_next ?_)
          exact ⟨rfl, bt1, cur, hd1, hcur⟩
      · rintro σ' H2 ⟨rfl, bt2, cur2, hd2, hcur2⟩
        (with_reducible refine w_ifS ?_)
        (with_reducible refine w_test ?_)
        (with_reducible refine w_op ?_)
        (with_reducible refine w_op ?_)
        ((with_reducible refine' w_var ?hv ?_); (case hv => exact rfl))
        (with_reducible refine w_c ?_)
        ((with_reducible refine' w_ixL ?hh ?ha ?_); (case hh => assumption); (case ha => exact rfl))
        (with_reducible refine w_c ?_)
        (with_reducible refine w_eqI ?_)
        (with_reducible refine w_bl ?_)
        have hc2 : H2 c = some (.lst (cs.map V.int)) := bt2 c _ ncd hc
        refine w_dec (fun e2 => ?_) (fun e2 => ?_)
        · (with_reducible refine w_seq ?_)
          (with_reducible refine w_asg ?_)
          (with_reducible refine w_op ?_)
          (with_reducible refine w_cb ?_)
          (with_reducible refine w_cons ?_)
          (with_reducible refine w_op ?_)
          (with_reducible refine w_op ?_)
          (with_reducible refine w_op ?_)
          ((with_reducible refine' w_var ?hv ?_); (case hv => exact rfl))
          (with_reducible refine w_c ?_)
          ((with_reducible refine' w_ixL ?hh ?ha ?_); (case hh => assumption); (case ha => exact rfl))
          (with_reducible refine w_c ?_)
          ((with_reducible refine w_I ?hc ?_); (case hc => walk_at "side"))
          (with_reducible refine w_c ?_)
          (with_reducible refine w_I0 ?_)
          (with_reducible refine w_nil ?_)
          (with_reducible refine w_int1 ?_)
          (with_reducible refine w_c ?_)
          ((with_reducible refine w_I ?hc ?_); (case hc => walk_at "side"))
          (with_reducible refine w_sub ?_)
          ((with_reducible refine' w_var ?hv ?_); (case hv => exact rfl))
          (with_reducible refine w_c ?_)
          ((with_reducible refine' w_setL ?hh ?ha ?_); (case hh => assumption); (case ha => exact rfl))
          intro H3 hd3 bt3
          replace hd3 : H3 d = some (.lst [.ref c, .int (i + 1), .int cur2, .int ((seed * 48271 + 11) % 2147483647)]) := hd3
          (with_reducible refine w_asg ?_)
          (with_reducible refine w_op ?_)
          ((with_reducible refine' w_var ?hv ?_); (case hv => exact rfl))
          (with_reducible refine w_c ?_)
          ((with_reducible refine' w_ixL ?hh ?ha ?_); (case hh => assumption); (case ha => exact rfl))
          (with_reducible refine w_sub ?_)
          ((with_reducible refine' w_var ?hv ?_); (case hv => exact rfl))
          (with_reducible refine w_c ?_)
          ((with_reducible refine' w_setL ?hh ?ha ?_); (case hh => assumption); (case ha => exact rfl))
          intro H4 hd4 bt4
          replace hd4 : H4 d = some (.lst [.ref c, .int (i + 1), .int ((seed * 48271 + 11) % 2147483647), .int ((seed * 48271 + 11) % 2147483647)]) := hd4
          have g1 : 0 ≤ (seed * 48271 + 11) % 2147483647 := Int.emod_nonneg _ (by omega)
          have g2 : (seed * 48271 + 11) % 2147483647 < 2147483647 := Int.emod_lt_of_pos _ (by omega)
          exact ⟨rfl, bt2.trans (bt3.trans bt4), _, _, _, hd4, bt4 c _ ncd (bt3 c _ ncd hc2), by omega, g1, g1, g2⟩
        · (with_reducible refine w_next ?_)
          exact ⟨rfl, bt2, _, _, _, hd2, hc2, by omega, hcur2, hs0, hs1⟩
    · (with_reducible refine w_next ?_)
      exact ⟨rfl, But.refl _ _, i, cur, seed, hd, hc, hi, hcur, hs0, hs1⟩
  · rintro σ' H' ⟨rfl, bt, i', cur', seed', hd', hc', hi', hcur', hs0', hs1'⟩
    (with_reducible refine w_seq ?_)
    (with_reducible refine w_asg ?_)
    (with_reducible refine w_op ?_)
    (with_reducible refine w_cb ?_)
    (with_reducible refine w_cons ?_)
    (with_reducible refine w_op ?_)
    ((with_reducible refine' w_var ?hv ?_); (case hv => exact rfl))
    (with_reducible refine w_c ?_)
    ((with_reducible refine' w_ixL ?hh ?ha ?_); (case hh => assumption); (case ha => exact rfl))
    (with_reducible refine w_nil ?_)
    (with_reducible refine w_int1 ?_)
    ((with_reducible refine' w_var ?hv ?_); (case hv => exact rfl))
    ((with_reducible refine w_I ?hc ?_); (case hc => walk_at "side"))
    (with_reducible refine w_name ?_)
    (with_reducible refine w_seq ?_)
    (with_reducible refine w_asg ?_)
    (with_reducible refine w_op ?_)
    (with_reducible refine w_op ?_)
    ((with_reducible refine' w_var ?hv ?_); (case hv => exact rfl))
    (with_reducible refine w_c ?_)
    ((with_reducible refine' w_ixL ?hh ?ha ?_); (case hh => assumption); (case ha => exact rfl))
    ((with_reducible refine' w_var ?hv ?_); (case hv => exact rfl))
    ((with_reducible refine w_I ?hc ?_); (case hc => walk_at "side"))
    (with_reducible refine w_sub ?_)
    ((with_reducible refine' w_var ?hv ?_); (case hv => exact rfl))
    (with_reducible refine w_c ?_)
    ((with_reducible refine' w_setL ?hh ?ha ?_); (case hh => assumption); (case ha => exact rfl))
    intro H1 hd1 bt1
    replace hd1 : H1 d = some (.lst [.ref c, .int i', .int (cur' / m), .int seed']) := hd1
    (with_reducible refine w_ret ?_)
    ((with_reducible refine' w_var ?hv ?_); (case hv => exact rfl))
    refine q (cur' % m) H1 (Int.emod_nonneg _ (by omega)) (Int.emod_lt_of_pos _ hm0) ⟨cs, i', cur' / m, seed', hd1, bt1 c _ ncd hc', ncd, hi', Int.ediv_nonneg hcur' (by omega), hs0', hs1', hcs⟩ (bt.trans bt1)
theorem ok_draw (b_int : mg "int" = none) (b_abs : mg "abs" = none) (b_len : mg "len" = none) (Z : St1 K mg "_law_draw" s_law_draw ["script"]) : Cd P w K mg base 1 "_law_draw" (spDraw K) := by
  refine Z.cd sc_law_draw (fun vs H Q E h => by obtain ⟨d, m, rfl, _⟩ := h; rfl) (fun f cdv A outer s H vs Q E hr h => ?_)
  obtain ⟨a, ns, rfl, hS, hlen, q⟩ := h
  refine ⟨_, (pss_cons (ps_set (i := 1) sc_law_draw.nd rfl (.inl rfl) pe_int)
      (pss_cons (ps_for PassesOwn.never rfl (pi_list (pv 0)) (pg_name (i := 2) sc_law_draw.nd rfl (.inl rfl))
      (pss_one (ps_set (i := 1) sc_law_draw.nd rfl (.inl rfl) (pe_op op_mod (pe_callTy call_intQ (by rfl) b_int (by decide +kernel) (pa_cons (pe_op op_add (pe_op op_add (pe_op op_mul (pv 1) pe_int) (pe_op op_mod (pe_callB call_absQ (by rfl) b_abs (by decide +kernel) (pa_cons (pe_callTy call_intQ (by rfl) b_int (by decide +kernel) (pa_cons (pv 2) pa_nil)) pa_nil)) pe_int)) pe_int) pa_nil)) pe_int))))
      (pss_one (ps_ret (pe_lst (pa_cons (pe_lc (own := [("cell", 2)]) rfl sc_law_draw.nd (pi_list (pv 0)) (blkOk_by (own := [("cell", 2)]) (N := ["script", "seed", "cell"]) (sc := (defScope s_law_draw)) (by decide +kernel)) (fun _ _ _ _ _ => (pg_name (i := 2) sc_law_draw.nd rfl (.inl rfl))) (fun _ _ _ _ _ => pts_nil) (fun _ _ _ _ _ => (pe_callB call_absQ (by rfl) b_abs (by decide +kernel) (pa_cons (pe_callTy call_intQ (by rfl) b_int (by decide +kernel) (pa_cons (pv 2) pa_nil)) pa_nil)))) (pa_cons (pe_un un_neg pe_int) (pa_cons pe_int (pa_cons (pv 1) pa_nil))))))))), ?_⟩
  (with_reducible refine w_seq ?_)
  (with_reducible refine w_asg ?_)
  (with_reducible refine w_c ?_)
  (with_reducible refine w_name ?_)
  (with_reducible refine w_seq ?_)
  (with_reducible refine w_for ?_)
  (with_reducible refine w_iL ?_)
  ((with_reducible refine' w_var ?hv ?_); (case hv => exact rfl))
  refine w_forL (ns.map V.int) (fun i σ' H' => H' = H ∧ ∃ (y : Option V) (seed : Int), σ' = [some (.ref a), some (.int seed), y] ∧ 0 ≤ seed ∧ seed < 2147483647) hS ⟨rfl, none, 7, rfl, by decide, by decide⟩ (fun i σ' H' _ ⟨e, _⟩ => by rw [e]; exact hS) ?_ ?_
  · rintro i x σ' H' hx ⟨rfl, y, seed, rfl, h0, h1⟩
    obtain ⟨n, _, rfl⟩ := map_get hx
    (with_reducible refine w_name ?_)
    (with_reducible refine w_asg ?_)
    (with_reducible refine w_op ?_)
    (with_reducible refine w_cb ?_)
    (with_reducible refine w_cons ?_)
    (with_reducible refine w_op ?_)
    (with_reducible refine w_op ?_)
    (with_reducible refine w_op ?_)
    ((with_reducible refine' w_var ?hv ?_); (case hv => exact rfl))
    (with_reducible refine w_c ?_)
    ((with_reducible refine w_I ?hc ?_); (case hc => walk_at "side"))
    (with_reducible refine w_op ?_)
    (with_reducible refine w_cb ?_)
    (with_reducible refine w_cons ?_)
    (with_reducible refine w_cb ?_)
    (with_reducible refine w_cons ?_)
    ((with_reducible refine' w_var ?hv ?_); (case hv => exact rfl))
    (with_reducible refine w_nil ?_)
    (with_reducible refine w_int1 ?_)
    (with_reducible refine w_nil ?_)
    (with_reducible refine w_abs ?_)
    (with_reducible refine w_c ?_)
    ((with_reducible refine w_I ?hc ?_); (case hc => walk_at "side"))
    (with_reducible refine w_I0 ?_)
    (with_reducible refine w_c ?_)
    (with_reducible refine w_I0 ?_)
    (with_reducible refine w_nil ?_)
    (with_reducible refine w_int1 ?_)
    (with_reducible refine w_c ?_)
    ((with_reducible refine w_I ?hc ?_); (case hc => walk_at "side"))
    (with_reducible refine w_name ?_)
    refine ⟨rfl, _, _, rfl, Int.emod_nonneg _ (by omega), Int.emod_lt_of_pos _ (by omega)⟩
  · rintro σ' H' ⟨rfl, y, seed, rfl, h0, h1⟩
    (with_reducible refine w_ret ?_)
    (with_reducible refine w_lst ?_)
    (with_reducible refine w_cons ?_)
    (with_reducible refine w_lc ?_)
    (with_reducible refine w_iL ?_)
    ((with_reducible refine' w_var ?hv ?_); (case hv => exact rfl))
    refine w_lcL (ns.map V.int) (fun c i H2 => H' c = none ∧ Same H' H2 ∧ H2 c = some (.lst (((ns.take i).map mabs).map V.int))) hS (fun c nc => ⟨nc, Same.new nc, upd_same⟩) (fun c i H2 _ ⟨_, e, _⟩ => e.seq hS) ?_ ?_
    · rintro c i x H2 hx ⟨nc, sm, hc⟩
      obtain ⟨n, hn, rfl⟩ := map_get hx
      (with_reducible refine w_name ?_)
      refine ⟨rfl, ?_⟩
      (with_reducible refine w_yes ?_)
      (with_reducible refine w_itT ?_)
      (with_reducible refine w_cb ?_)
      (with_reducible refine w_cons ?_)
      (with_reducible refine w_cb ?_)
      (with_reducible refine w_cons ?_)
      ((with_reducible refine' w_var ?hv ?_); (case hv => exact rfl))
      (with_reducible refine w_nil ?_)
      (with_reducible refine w_int1 ?_)
      (with_reducible refine w_nil ?_)
      (with_reducible refine w_abs ?_)
      have hi : i < ns.length := (List.getElem?_eq_some_iff.mp hn).1
      refine ⟨_, hc, by simp only [List.length_map, List.length_take]; exact small1000 (by omega), nc, ?_, ?_⟩
      · exact fun b o e => by rw [upd_ne (ne_of_none e nc)]; exact sm b o e
      · rw [upd_same, take_more hn, List.map_append, List.map_append]; rfl
    · rintro c H2 nc ⟨_, sm, hc⟩
      (with_reducible refine w_cons ?_)
      (with_reducible refine w_un ?_)
      (with_reducible refine w_c ?_)
      (with_reducible refine w_U ?_)
      (with_reducible refine w_cons ?_)
      (with_reducible refine w_c ?_)
      (with_reducible refine w_cons ?_)
      ((with_reducible refine' w_var ?hv ?_); (case hv => exact rfl))
      (with_reducible refine w_nil ?_)
      refine w_kLst (by show 4 ≤ sizeLine; decide) fun d H3 nd sm3 hd => ?_
      have hdc : c ≠ d := ne_of_none hc nd
      rw [List.length_map, List.take_length] at hc
      refine q d c _ (sm.free nd) nc (sm.trans sm3) ⟨ns.map mabs, -1, 0, seed, hd, sm3 _ _ hc, hdc, by decide, by decide, h0, h1, fun x hx => ?_⟩
      obtain ⟨n, _, rfl⟩ := List.mem_map.mp hx
      exact mabs_nn n
end
end K30

namespace K30
def cks0 : List (PySem.W.Frag → Bool) := [fun K => gloZ "plain_op" K,
  fun K => gloZ "_signed" K,
  fun K => gloZ "_add" K,
  fun K => gloZ "_sub" K,
  fun K => gloZ "_mul" K,
  fun K => gloZ "_and" K,
  fun K => gloZ "_or" K,
  fun K => gloZ "_xor" K,
  fun K => gloZ "_shl" K,
  fun K => gloZ "_shr" K,
  fun K => gloZ "_sar" K,
  fun K => gloZ "_slt" K,
  fun K => gloZ "_sltu" K,
  fun K => gloZ "_divu" K,
  fun K => gloZ "_remu" K,
  fun K => gloZ "compute" K,
  fun K => gloZ "parts_of_node" K,
  fun K => gloZ "and_machine" K,
  fun K => gloZ "or_machine" K,
  fun K => gloZ "xor_machine" K,
  fun K => gloZ "mul_machine" K,
  fun K => gloZ "_shift" K,
  fun K => gloZ "_less" K,
  fun K => gloZ "divu_machine" K,
  fun K => gloZ "remu_machine" K,
  fun K => gloZ "_law_draw" K,
  fun K => gloZ "_law_take" K,
  fun K => gloZ "_law_signed" K,
  fun K => gloZ "_law_compute" K,
  fun K => gloZ "_law_word" K]
def cks1 : List (PySem.W.Frag → Bool) := [fun K => gloZ "_law_part" K,
  fun K => gloZ "_law_lists" K,
  fun K => gloZ "_law_leaf_value" K,
  fun K => gloZ "_law_sum_right" K,
  fun K => gloZ "law" K,
  fun K => gloZ "Pool" K,
  fun K => (He.Fa.cls "Pool").ok K,
  fun K => (He.Fa.noat "Pool" "nodes").ok K,
  fun K => (He.Fa.noat "Pool" "numbers").ok K,
  fun K => (He.Fa.mkr "Pool").ok K,
  fun K => (He.Fa.meth "Pool" "term").ok K,
  fun K => (He.Fa.meth "Pool" "word").ok K,
  fun K => (He.Fa.meth "Pool" "node").ok K,
  fun K => (He.Fa.meth "Pool" "word_of").ok K,
  fun K => (He.Fa.meth "Pool" "normal").ok K,
  fun K => (He.Fa.meth "Pool" "parts_of_operation").ok K,
  fun K => (He.Fa.meth "Pool" "total").ok K,
  fun K => (He.Fa.meth "Pool" "linear").ok K,
  fun K => (He.Fa.meth "Pool" "sum_of").ok K,
  fun K => (He.Fa.meth "Pool" "settled").ok K,
  fun K => (He.Fa.meth "Pool" "inside").ok K,
  fun K => (He.Fa.meth "Pool" "made_again").ok K,
  fun K => (He.Fa.meth "Pool" "added_up").ok K,
  fun K => (He.Fa.meth "Pool" "value_of").ok K,
  fun K => (He.Fa.int "WORDS_IN_ALL" 4294967296).ok K,
  fun K => (He.Fa.int "MASK" 4294967295).ok K,
  fun K => (He.Fa.int "HALF" 2147483648).ok K,
  fun K => (He.Fa.int "MOST_TERMS" 12).ok K,
  fun K => (He.Fa.free "abs").ok K,
  fun K => (He.Fa.free "int").ok K]
def cks2 : List (PySem.W.Frag → Bool) := [fun K => (He.Fa.free "len").ok K,
  fun K => (He.Fa.free "list").ok K,
  fun K => (He.Fa.free "max").ok K,
  fun K => (He.Fa.free "min").ok K,
  fun K => (He.Fa.free "range").ok K,
  fun K => (He.Fa.free "reversed").ok K,
  fun K => (He.Fa.free "sorted").ok K,
  fun K => (He.Fa.free "sum").ok K,
  fun K => (He.Fa.free "tuple").ok K,
  fun K => tupZ K (He.ga K "LEAVES") (([.str "word", .str "in", .str "loose", .str "load", .str "get"] : List V)),
  fun K => gloZ "LEAVES" K,
  fun K => gloZ "OPS_OF_IMMEDIATES" K,
  fun K => strZ K (He.ga K "OPS_OF_IMMEDIATES") "addi" "add",
  fun K => strZ K (He.ga K "OPS_OF_IMMEDIATES") "andi" "and",
  fun K => strZ K (He.ga K "OPS_OF_IMMEDIATES") "ori" "or",
  fun K => strZ K (He.ga K "OPS_OF_IMMEDIATES") "xori" "xor",
  fun K => strZ K (He.ga K "OPS_OF_IMMEDIATES") "shli" "shl",
  fun K => strZ K (He.ga K "OPS_OF_IMMEDIATES") "shri" "shr",
  fun K => strZ K (He.ga K "OPS_OF_IMMEDIATES") "sari" "sar",
  fun K => strZ K (He.ga K "OPS_OF_IMMEDIATES") "slti" "slt",
  fun K => nsZ K (He.ga K "OPS_OF_IMMEDIATES") "add" none,
  fun K => nsZ K (He.ga K "OPS_OF_IMMEDIATES") "sub" none,
  fun K => nsZ K (He.ga K "OPS_OF_IMMEDIATES") "mul" none,
  fun K => nsZ K (He.ga K "OPS_OF_IMMEDIATES") "and" none,
  fun K => nsZ K (He.ga K "OPS_OF_IMMEDIATES") "or" none,
  fun K => nsZ K (He.ga K "OPS_OF_IMMEDIATES") "xor" none,
  fun K => nsZ K (He.ga K "OPS_OF_IMMEDIATES") "shl" none,
  fun K => nsZ K (He.ga K "OPS_OF_IMMEDIATES") "shr" none,
  fun K => nsZ K (He.ga K "OPS_OF_IMMEDIATES") "sar" none,
  fun K => nsZ K (He.ga K "OPS_OF_IMMEDIATES") "slt" none]
def cks3 : List (PySem.W.Frag → Bool) := [fun K => nsZ K (He.ga K "OPS_OF_IMMEDIATES") "sltu" none,
  fun K => nsZ K (He.ga K "OPS_OF_IMMEDIATES") "divu" none,
  fun K => nsZ K (He.ga K "OPS_OF_IMMEDIATES") "remu" none,
  fun K => gloZ "RULES" K,
  fun K => nsZ K (He.ga K "RULES") "add" none,
  fun K => nsZ K (He.ga K "RULES") "sub" none,
  fun K => nsZ K (He.ga K "RULES") "mul" (some (.ref (He.ga K "_mul"))),
  fun K => nsZ K (He.ga K "RULES") "and" (some (.ref (He.ga K "_and"))),
  fun K => nsZ K (He.ga K "RULES") "or" (some (.ref (He.ga K "_or"))),
  fun K => nsZ K (He.ga K "RULES") "xor" (some (.ref (He.ga K "_xor"))),
  fun K => nsZ K (He.ga K "RULES") "shl" (some (.ref (He.ga K "_shift"))),
  fun K => nsZ K (He.ga K "RULES") "shr" (some (.ref (He.ga K "_shift"))),
  fun K => nsZ K (He.ga K "RULES") "sar" (some (.ref (He.ga K "_shift"))),
  fun K => nsZ K (He.ga K "RULES") "slt" (some (.ref (He.ga K "_less"))),
  fun K => nsZ K (He.ga K "RULES") "sltu" (some (.ref (He.ga K "_less"))),
  fun K => nsZ K (He.ga K "RULES") "divu" (some (.ref (He.ga K "_divu"))),
  fun K => nsZ K (He.ga K "RULES") "remu" (some (.ref (He.ga K "_remu"))),
  fun K => gloZ "RESULTS" K,
  fun K => nsZ K (He.ga K "RESULTS") "add" (some (.ref (He.ga K "_add"))),
  fun K => nsZ K (He.ga K "RESULTS") "sub" (some (.ref (He.ga K "_sub"))),
  fun K => nsZ K (He.ga K "RESULTS") "mul" (some (.ref (He.ga K "mul_machine"))),
  fun K => nsZ K (He.ga K "RESULTS") "and" (some (.ref (He.ga K "and_machine"))),
  fun K => nsZ K (He.ga K "RESULTS") "or" (some (.ref (He.ga K "or_machine"))),
  fun K => nsZ K (He.ga K "RESULTS") "xor" (some (.ref (He.ga K "xor_machine"))),
  fun K => nsZ K (He.ga K "RESULTS") "shl" (some (.ref (He.ga K "_shl"))),
  fun K => nsZ K (He.ga K "RESULTS") "shr" (some (.ref (He.ga K "_shr"))),
  fun K => nsZ K (He.ga K "RESULTS") "sar" (some (.ref (He.ga K "_sar"))),
  fun K => nsZ K (He.ga K "RESULTS") "slt" (some (.ref (He.ga K "_slt"))),
  fun K => nsZ K (He.ga K "RESULTS") "sltu" (some (.ref (He.ga K "_sltu"))),
  fun K => nsZ K (He.ga K "RESULTS") "divu" (some (.ref (He.ga K "divu_machine")))]
def cks4 : List (PySem.W.Frag → Bool) := [fun K => nsZ K (He.ga K "RESULTS") "remu" (some (.ref (He.ga K "remu_machine"))),
  fun K => nsZ K (He.ga K "RESULTS") "addi" (some (.ref (He.ga K "_add"))),
  fun K => nsZ K (He.ga K "RESULTS") "andi" (some (.ref (He.ga K "and_machine"))),
  fun K => nsZ K (He.ga K "RESULTS") "ori" (some (.ref (He.ga K "or_machine"))),
  fun K => nsZ K (He.ga K "RESULTS") "xori" (some (.ref (He.ga K "xor_machine"))),
  fun K => nsZ K (He.ga K "RESULTS") "shli" (some (.ref (He.ga K "_shl"))),
  fun K => nsZ K (He.ga K "RESULTS") "shri" (some (.ref (He.ga K "_shr"))),
  fun K => nsZ K (He.ga K "RESULTS") "sari" (some (.ref (He.ga K "_sar"))),
  fun K => nsZ K (He.ga K "RESULTS") "slti" (some (.ref (He.ga K "_slt")))]
abbrev cks : List (PySem.W.Frag → Bool) := cks0 ++ cks1 ++ cks2 ++ cks3 ++ cks4
def fns0 : List Fx := [⟨fun K => He.ga K "plain_op", "plain_op", "plain_op", s_plain_op⟩,
  ⟨fun K => He.ga K "_signed", "_signed", "_signed", s_signed⟩,
  ⟨fun K => He.ga K "_add", "_add", "_add", s_add⟩,
  ⟨fun K => He.ga K "_sub", "_sub", "_sub", s_sub⟩,
  ⟨fun K => He.ga K "_mul", "_mul", "_mul", s_mul⟩,
  ⟨fun K => He.ga K "_and", "_and", "_and", s_and⟩,
  ⟨fun K => He.ga K "_or", "_or", "_or", s_or⟩,
  ⟨fun K => He.ga K "_xor", "_xor", "_xor", s_xor⟩,
  ⟨fun K => He.ga K "_shl", "_shl", "_shl", s_shl⟩,
  ⟨fun K => He.ga K "_shr", "_shr", "_shr", s_shr⟩,
  ⟨fun K => He.ga K "_sar", "_sar", "_sar", s_sar⟩,
  ⟨fun K => He.ga K "_slt", "_slt", "_slt", s_slt⟩,
  ⟨fun K => He.ga K "_sltu", "_sltu", "_sltu", s_sltu⟩,
  ⟨fun K => He.ga K "_divu", "_divu", "_divu", s_divu⟩,
  ⟨fun K => He.ga K "_remu", "_remu", "_remu", s_remu⟩,
  ⟨fun K => He.ga K "compute", "compute", "compute", s_compute⟩,
  ⟨fun K => He.ga K "parts_of_node", "parts_of_node", "parts_of_node", s_parts_of_node⟩,
  ⟨fun K => He.ga K "and_machine", "_and", "_and", s_and_1⟩,
  ⟨fun K => He.ga K "or_machine", "_or", "_or", s_or_1⟩,
  ⟨fun K => He.ga K "xor_machine", "_xor", "_xor", s_xor_1⟩,
  ⟨fun K => He.ga K "mul_machine", "_mul", "_mul", s_mul_1⟩,
  ⟨fun K => He.ga K "_shift", "_shift", "_shift", s_shift⟩,
  ⟨fun K => He.ga K "_less", "_less", "_less", s_less⟩,
  ⟨fun K => He.ga K "divu_machine", "_divu", "_divu", s_divu_1⟩,
  ⟨fun K => He.ga K "remu_machine", "_remu", "_remu", s_remu_1⟩,
  ⟨fun K => He.ga K "_law_draw", "_law_draw", "_law_draw", s_law_draw⟩,
  ⟨fun K => He.ga K "_law_take", "_law_take", "_law_take", s_law_take⟩,
  ⟨fun K => He.ga K "_law_signed", "_law_signed", "_law_signed", s_law_signed⟩,
  ⟨fun K => He.ga K "_law_compute", "_law_compute", "_law_compute", s_law_compute⟩,
  ⟨fun K => He.ga K "_law_word", "_law_word", "_law_word", s_law_word⟩]
def fns1 : List Fx := [⟨fun K => He.ga K "_law_part", "_law_part", "_law_part", s_law_part⟩,
  ⟨fun K => He.ga K "_law_lists", "_law_lists", "_law_lists", s_law_lists⟩,
  ⟨fun K => He.ga K "_law_leaf_value", "_law_leaf_value", "_law_leaf_value", s_law_leaf_value⟩,
  ⟨fun K => He.ga K "_law_sum_right", "_law_sum_right", "_law_sum_right", s_law_sum_right⟩,
  ⟨fun K => He.ga K "law", "law", "law", s_law⟩,
  ⟨fun K => He.ma K (He.ga K "Pool") "__init__", "__init__", "Pool.__init__", s_Pool_init⟩,
  ⟨fun K => He.ma K (He.ga K "Pool") "term", "term", "Pool.term", s_Pool_term⟩,
  ⟨fun K => He.ma K (He.ga K "Pool") "word", "word", "Pool.word", s_Pool_word⟩,
  ⟨fun K => He.ma K (He.ga K "Pool") "node", "node", "Pool.node", s_Pool_node⟩,
  ⟨fun K => He.ma K (He.ga K "Pool") "word_of", "word_of", "Pool.word_of", s_Pool_word_of⟩,
  ⟨fun K => He.ma K (He.ga K "Pool") "normal", "normal", "Pool.normal", s_Pool_normal⟩,
  ⟨fun K => He.ma K (He.ga K "Pool") "parts_of_operation", "parts_of_operation", "Pool.parts_of_operation", s_Pool_parts_of_operation⟩,
  ⟨fun K => He.ma K (He.ga K "Pool") "total", "total", "Pool.total", s_Pool_total⟩,
  ⟨fun K => He.ma K (He.ga K "Pool") "linear", "linear", "Pool.linear", s_Pool_linear⟩,
  ⟨fun K => He.ma K (He.ga K "Pool") "sum_of", "sum_of", "Pool.sum_of", s_Pool_sum_of⟩,
  ⟨fun K => He.ma K (He.ga K "Pool") "settled", "settled", "Pool.settled", s_Pool_settled⟩,
  ⟨fun K => He.ma K (He.ga K "Pool") "inside", "inside", "Pool.inside", s_Pool_inside⟩,
  ⟨fun K => He.ma K (He.ga K "Pool") "made_again", "made_again", "Pool.made_again", s_Pool_made_again⟩,
  ⟨fun K => He.ma K (He.ga K "Pool") "added_up", "added_up", "Pool.added_up", s_Pool_added_up⟩,
  ⟨fun K => He.ma K (He.ga K "Pool") "value_of", "value_of", "Pool.value_of", s_Pool_value_of⟩]
abbrev fns : List Fx := fns0 ++ fns1
def tabs0 : List He.Tab := [(fun K => (He.ga K "OPS_OF_IMMEDIATES"), (["addi", "andi", "ori", "xori", "shli", "shri", "sari", "slti"] : List Str)),
  (fun K => (He.ga K "RULES"), (["and", "or", "xor", "mul", "shl", "shr", "sar", "slt", "sltu", "divu", "remu"] : List Str)),
  (fun K => (He.ga K "RESULTS"), (["add", "sub", "mul", "and", "or", "xor", "shl", "shr", "sar", "slt", "sltu", "divu"] : List Str) ++ (["remu", "addi", "andi", "ori", "xori", "shli", "shri", "sari", "slti"] : List Str))]
abbrev tabs : List He.Tab := tabs0
def topN0 : List PySem.Str := ["_wall",
  "WORDS_IN_ALL",
  "MASK",
  "OPS_OF_IMMEDIATES",
  "plain_op",
  "HALF",
  "_signed",
  "_add",
  "_sub",
  "_mul",
  "mul_machine",
  "_and",
  "and_machine",
  "_or",
  "or_machine"]
def topN1 : List PySem.Str := ["_xor",
  "xor_machine",
  "_shl",
  "_shr",
  "_sar",
  "_slt",
  "_sltu",
  "_divu",
  "divu_machine",
  "_remu",
  "remu_machine",
  "RESULTS",
  "compute",
  "LEAVES",
  "MOST_TERMS"]
def topN2 : List PySem.Str := ["Pool",
  "parts_of_node",
  "and_symbols",
  "or_symbols",
  "xor_symbols",
  "mul_symbols",
  "_shift",
  "_less",
  "divu_symbols",
  "remu_symbols",
  "RULES",
  "_law_draw",
  "_law_take",
  "_law_signed",
  "_law_compute"]
def topN3 : List PySem.Str := ["_law_holds",
  "_law_word",
  "_law_part",
  "_law_lists",
  "_law_leaf_value",
  "_law_sum_right"]
abbrev topN : List PySem.Str := topN0 ++ topN1 ++ topN2 ++ topN3
abbrev Rw : PySem.W.OpenRow := PySem.W.OpenLaw.row PySem.Challenge.rw_restitch_k30_terms_are_values
abbrev hk : PySem.W.Hook := hookZ 5 cks fns tabs
def ob (s : PySem.W.SharedT) : AlZ := obsZG 5 cks fns tabs (HandSHeadRun.getT s)
theorem ob_eq (s : PySem.W.SharedT) : ob s = hk.obs s.abs := obsZG_eq (HandSHeadRun.getT_eq s)
set_option maxHeartbeats 0 in
theorem rf1 (w : World) (os : OsState) : lookEnd Rw 12000 (w.withFollow "special-get-raises" false) os (fun s => (lookZ Rw (w.withFollow "special-get-raises" false) s, HandSHeadRun.seenQ (PySem.W.view Rw.prog [61]) topN (PySem.importedModules Rw.prog.main.body) (fun s => PySem.W.xlAt (PySem.W.view Rw.prog [61]) [] s && PySem.W.recOk Rw.toRowW.records s) s.abs)) (true, PySem.W.openGood (PySem.W.view Rw.prog [61]) topN) := by
  unfold lookEnd
  kernel_rfl
set_option maxHeartbeats 0 in
theorem rf2 (w : World) (os : OsState) : lookEnd Rw 12000 (w.withFollow "special-get-raises" false) os (fun s => cks.all fun f => f (KT 5 s)) true := by
  unfold lookEnd
  kernel_rfl
set_option maxHeartbeats 0 in
theorem rf3 (w : World) (os : OsState) : lookEnd Rw 12000 (w.withFollow "special-get-raises" false) os (fun s => (fns.all (fun d => d.ok (KT 5 s)), fns.map (fxObs (KT 5 s)), tabs.map fun t => He.dicW (KT 5 s) (t.1 (KT 5 s)))) (true, fns.map Fx.val, tabs.map fun t => some (He.keysIn (World.params (w.withFollow "special-get-raises" false)) t.2)) := by
  unfold lookEnd
  kernel_rfl
set_option maxHeartbeats 0 in
theorem rt1 (w : World) (os : OsState) : lookEnd Rw 12000 (w.withFollow "special-get-raises" true) os (fun s => (lookZ Rw (w.withFollow "special-get-raises" true) s, HandSHeadRun.seenQ (PySem.W.view Rw.prog [61]) topN (PySem.importedModules Rw.prog.main.body) (fun s => PySem.W.xlAt (PySem.W.view Rw.prog [61]) [] s && PySem.W.recOk Rw.toRowW.records s) s.abs)) (true, PySem.W.openGood (PySem.W.view Rw.prog [61]) topN) := by
  unfold lookEnd
  kernel_rfl
set_option maxHeartbeats 0 in
theorem rt2 (w : World) (os : OsState) : lookEnd Rw 12000 (w.withFollow "special-get-raises" true) os (fun s => cks.all fun f => f (KT 5 s)) true := by
  unfold lookEnd
  kernel_rfl
set_option maxHeartbeats 0 in
theorem rt3 (w : World) (os : OsState) : lookEnd Rw 12000 (w.withFollow "special-get-raises" true) os (fun s => (fns.all (fun d => d.ok (KT 5 s)), fns.map (fxObs (KT 5 s)), tabs.map fun t => He.dicW (KT 5 s) (t.1 (KT 5 s)))) (true, fns.map Fx.val, tabs.map fun t => some (He.keysIn (World.params (w.withFollow "special-get-raises" true)) t.2)) := by
  unfold lookEnd
  kernel_rfl
theorem run (w : World) : HandSHeadRun.RunEq Rw (PySem.W.view Rw.prog [61]) hk ob 12000 topN w := PySem.W.byRow2 "special-get-raises" (P := fun w => HandSHeadRun.RunEq Rw (PySem.W.view Rw.prog [61]) hk ob 12000 topN w) (fun w => runZ (rf1 w) (rf2 w) (rf3 w)) (fun w => runZ (rt1 w) (rt2 w) (rt3 w)) w
end K30


open PySem.W
namespace K30
/-! the law's word; what a word is -/
theorem sc_law_word : FnScope ["draw", "k"] ["draw"] (defScope s_law_word) := ⟨rfl, rfl, rfl, by decide +kernel, rfl, by decide +kernel, by decide +kernel⟩
def W32 (x : Int) : Prop := 0 ≤ x ∧ x < 4294967296
theorem and32 (x : Int) : W32 (Builtin.bitAnd x 4294967295) := by
  rw [show (4294967295 : Int) = 2 ^ 32 - 1 from rfl, PySem.W.kbt_mask x 32]
  exact ⟨Int.emod_nonneg _ (by decide), Int.emod_lt_of_pos _ (by decide)⟩
def spWord : Sp := fun vs H Q _ => ∃ (d cc : Addr), vs = [.ref d] ∧ DrawC H d cc ∧ ∀ (r : Int) H', W32 r → DrawC H' d cc → But d H H' → Q (.int r) H'
section
variable {P : Program} {w : World} {K : PySem.W.Frag} {mg : Str → Option Value} {base : Heap}
theorem ok_law_word (c_law_take : Cd P w K mg base 1 "_law_take" spTake) (Z : St1 K mg "_law_word" s_law_word ["draw"]) : Cd P w K mg base 2 "_law_word" spWord := by
  refine Z.cd sc_law_word (fun vs H Q E h => by obtain ⟨d, cc, rfl, _⟩ := h; rfl) (fun f cdv A outer s H vs Q E hr h => ?_)
  obtain ⟨d, cc, rfl, hd, q⟩ := h
  refine ⟨_, (pss_cons (ps_set (i := 1) sc_law_word.nd rfl (.inl rfl) (pe_cd c_law_take hr (by first | decide | omega) (by rfl) (pa_cons (pv 0) (pa_cons pe_int pa_nil))))
      (pss_cons (ps_if (pt_cmpR op_lt (pv 1) pe_int (nomark _)) (pss_one (ps_ret (pe_cd c_law_take hr (by first | decide | omega) (by rfl) (pa_cons (pv 0) (pa_cons pe_int pa_nil))))) pss_nil)
      (pss_cons (ps_if (pt_cmpR op_eq (pv 1) pe_int (nomark _)) (pss_one (ps_ret (pe_op op_sub pe_int (pe_cd c_law_take hr (by first | decide | omega) (by rfl) (pa_cons (pv 0) (pa_cons pe_int pa_nil)))))) pss_nil)
      (pss_cons (ps_if (pt_cmpR op_eq (pv 1) pe_int (nomark _)) (pss_one (ps_ret (pe_op op_and (pe_op op_sub (pe_op op_add (pe_op op_shl pe_int (pe_cd c_law_take hr (by first | decide | omega) (by rfl) (pa_cons (pv 0) (pa_cons pe_int pa_nil)))) (pe_cd c_law_take hr (by first | decide | omega) (by rfl) (pa_cons (pv 0) (pa_cons pe_int pa_nil)))) pe_int) pe_int))) pss_nil)
      (pss_one (ps_ret (pe_op op_and (pe_op op_add (pe_op op_mul (pe_cd c_law_take hr (by first | decide | omega) (by rfl) (pa_cons (pv 0) (pa_cons pe_int pa_nil))) pe_int) (pe_cd c_law_take hr (by first | decide | omega) (by rfl) (pa_cons (pv 0) (pa_cons pe_int pa_nil)))) pe_int))))))), ?_⟩
  (with_reducible refine w_seq ?_)
  (with_reducible refine w_asg ?_)
  (with_reducible refine w_call ?_)
  (with_reducible refine w_cons ?_)
  ((with_reducible refine' w_var ?hv ?_); (case hv => exact rfl))
  (with_reducible refine w_cons ?_)
  (with_reducible refine w_c ?_)
  (with_reducible refine w_nil ?_)
  refine w_take hd (by decide) (by decide) fun k H1 k0 k1 hd1 b1 => ?_
  (with_reducible refine w_name ?_)
  (with_reducible refine w_seq ?_)
  (with_reducible refine w_ifS ?_)
  (with_reducible refine w_test ?_)
  (with_reducible refine w_op ?_)
  ((with_reducible refine' w_var ?hv ?_); (case hv => exact rfl))
  (with_reducible refine w_c ?_)
  (with_reducible refine w_I0 ?_)
  (with_reducible refine w_bl ?_)
  refine w_dec (fun e1 => ?_) (fun e1 => ?_)
  · (with_reducible refine w_ret ?_)
    (with_reducible refine w_call ?_)
    (with_reducible refine w_cons ?_)
    ((with_reducible refine' w_var ?hv ?_); (case hv => exact rfl))
    (with_reducible refine w_cons ?_)
    (with_reducible refine w_c ?_)
    (with_reducible refine w_nil ?_)
    exact w_take hd1 (by decide) (by decide) fun x H2 x0 x1 hd2 b2 => q _ _ ⟨x0, by omega⟩ hd2 (b1.trans b2)
  · (with_reducible refine w_next ?_)
    (with_reducible refine w_seq ?_)
    (with_reducible refine w_ifS ?_)
    (with_reducible refine w_test ?_)
    (with_reducible refine w_op ?_)
    ((with_reducible refine' w_var ?hv ?_); (case hv => exact rfl))
    (with_reducible refine w_c ?_)
    (with_reducible refine w_eqI ?_)
    (with_reducible refine w_bl ?_)
    refine w_dec (fun e2 => ?_) (fun e2 => ?_)
    · (with_reducible refine w_ret ?_)
      (with_reducible refine w_op ?_)
      (with_reducible refine w_c ?_)
      (with_reducible refine w_call ?_)
      (with_reducible refine w_cons ?_)
      ((with_reducible refine' w_var ?hv ?_); (case hv => exact rfl))
      (with_reducible refine w_cons ?_)
      (with_reducible refine w_c ?_)
      (with_reducible refine w_nil ?_)
      refine w_take hd1 (by decide) (by decide) fun x H2 x0 x1 hd2 b2 => ?_
      (with_reducible refine w_I0 ?_)
      exact q _ _ ⟨by omega, by omega⟩ hd2 (b1.trans b2)
    · (with_reducible refine w_next ?_)
      (with_reducible refine w_seq ?_)
      (with_reducible refine w_ifS ?_)
      (with_reducible refine w_test ?_)
      (with_reducible refine w_op ?_)
      ((with_reducible refine' w_var ?hv ?_); (case hv => exact rfl))
      (with_reducible refine w_c ?_)
      (with_reducible refine w_eqI ?_)
      (with_reducible refine w_bl ?_)
      refine w_dec (fun e3 => ?_) (fun e3 => ?_)
      · (with_reducible refine w_ret ?_)
        (with_reducible refine w_op ?_)
        (with_reducible refine w_op ?_)
        (with_reducible refine w_op ?_)
        (with_reducible refine w_op ?_)
        (with_reducible refine w_c ?_)
        (with_reducible refine w_call ?_)
        (with_reducible refine w_cons ?_)
        ((with_reducible refine' w_var ?hv ?_); (case hv => exact rfl))
        (with_reducible refine w_cons ?_)
        (with_reducible refine w_c ?_)
        (with_reducible refine w_nil ?_)
        refine w_take hd1 (by decide) (by decide) fun x H2 x0 x1 hd2 b2 => ?_
        ((with_reducible refine w_I ?hc ?_); (case hc => walk_at "side"))
        (with_reducible refine w_call ?_)
        (with_reducible refine w_cons ?_)
        ((with_reducible refine' w_var ?hv ?_); (case hv => exact rfl))
        (with_reducible refine w_cons ?_)
        (with_reducible refine w_c ?_)
        (with_reducible refine w_nil ?_)
        refine w_take hd2 (by decide) (by decide) fun y H3 y0 y1 hd3 b3 => ?_
        (with_reducible refine w_I0 ?_)
        (with_reducible refine w_c ?_)
        (with_reducible refine w_I0 ?_)
        (with_reducible refine w_c ?_)
        (with_reducible refine w_I0 ?_)
        exact q _ _ (and32 _) hd3 (b1.trans (b2.trans b3))
      · (with_reducible refine w_next ?_)
        (with_reducible refine w_ret ?_)
        (with_reducible refine w_op ?_)
        (with_reducible refine w_op ?_)
        (with_reducible refine w_op ?_)
        (with_reducible refine w_call ?_)
        (with_reducible refine w_cons ?_)
        ((with_reducible refine' w_var ?hv ?_); (case hv => exact rfl))
        (with_reducible refine w_cons ?_)
        (with_reducible refine w_c ?_)
        (with_reducible refine w_nil ?_)
        refine w_take hd1 (by decide) (by decide) fun x H2 x0 x1 hd2 b2 => ?_
        (with_reducible refine w_c ?_)
        ((with_reducible refine w_I ?hc ?_); (case hc => walk_at "side"))
        (with_reducible refine w_call ?_)
        (with_reducible refine w_cons ?_)
        ((with_reducible refine' w_var ?hv ?_); (case hv => exact rfl))
        (with_reducible refine w_cons ?_)
        (with_reducible refine w_c ?_)
        (with_reducible refine w_nil ?_)
        refine w_take hd2 (by decide) (by decide) fun y H3 y0 y1 hd3 b3 => ?_
        (with_reducible refine w_I0 ?_)
        (with_reducible refine w_c ?_)
        (with_reducible refine w_I0 ?_)
        exact q _ _ (and32 _) hd3 (b1.trans (b2.trans b3))
theorem w_wordD {d cc : Addr} {H : Hp} {Q : VK} {E : XK} (hd : DrawC H d cc) (q : ∀ (r : Int) H', W32 r → DrawC H' d cc → But d H H' → Q (.int r) H') : spWord [.ref d] H Q E := ⟨d, cc, rfl, hd, q⟩
end
end K30


open PySem.W
namespace K30
/-! the machine's results and conditions -/
structure Mtx (K : PySem.W.Frag) (mg : Str → Option Value) : Prop where
  g_MASK : GV mg "MASK" (.int 4294967295)
  g_HALF : GV mg "HALF" (.int 2147483648)
  g_WORDS_IN_ALL : GV mg "WORDS_IN_ALL" (.int 4294967296)
def W2 (x y : Int) : Prop := W32 x ∧ W32 y
def sgn (x : Int) : Int := if 2147483648 ≤ x then x - 4294967296 else x
def dAdd (x y : Int) : Int := (x + y) % 4294967296
def dSub (x y : Int) : Int := (x - y) % 4294967296
def dMul (x y : Int) : Int := (x * y) % 4294967296
def dAnd (x y : Int) : Int := Builtin.bitAnd x y
def dOr (x y : Int) : Int := Builtin.bitOr x y
def dXor (x y : Int) : Int := Builtin.bitXor x y
def dShl (x y : Int) : Int := (x * 2 ^ (y % 32).toNat) % 4294967296
def dShr (x y : Int) : Int := x / 2 ^ (y % 32).toNat
def dSar (x y : Int) : Int := (sgn x / 2 ^ (y % 32).toNat) % 4294967296
def dSlt (x y : Int) : Int := if sgn x < sgn y then 1 else 0
def dSltu (x y : Int) : Int := if x < y then 1 else 0
def dDivu (x y : Int) : Int := if y = 0 then 4294967295 else x / y
def dRemu (x y : Int) : Int := if y = 0 then x else x % y
abbrev spOp (g : Int → Int → Int) : Sp := spI2 W2 fun x y => .int (g x y)
theorem sc_signed : FnScope ["word"] ["word"] (defScope s_signed) := ⟨rfl, rfl, rfl, by decide +kernel, rfl, by decide +kernel, by decide +kernel⟩
theorem sc_add : FnScope ["x", "y"] ["x", "y"] (defScope s_add) := ⟨rfl, rfl, rfl, by decide +kernel, rfl, by decide +kernel, by decide +kernel⟩
theorem sc_sub : FnScope ["x", "y"] ["x", "y"] (defScope s_sub) := ⟨rfl, rfl, rfl, by decide +kernel, rfl, by decide +kernel, by decide +kernel⟩
theorem sc_mul_1 : FnScope ["x", "y"] ["x", "y"] (defScope s_mul_1) := ⟨rfl, rfl, rfl, by decide +kernel, rfl, by decide +kernel, by decide +kernel⟩
theorem sc_and_1 : FnScope ["x", "y"] ["x", "y"] (defScope s_and_1) := ⟨rfl, rfl, rfl, by decide +kernel, rfl, by decide +kernel, by decide +kernel⟩
theorem sc_or_1 : FnScope ["x", "y"] ["x", "y"] (defScope s_or_1) := ⟨rfl, rfl, rfl, by decide +kernel, rfl, by decide +kernel, by decide +kernel⟩
theorem sc_xor_1 : FnScope ["x", "y"] ["x", "y"] (defScope s_xor_1) := ⟨rfl, rfl, rfl, by decide +kernel, rfl, by decide +kernel, by decide +kernel⟩
theorem sc_shl : FnScope ["x", "y"] ["x", "y"] (defScope s_shl) := ⟨rfl, rfl, rfl, by decide +kernel, rfl, by decide +kernel, by decide +kernel⟩
theorem sc_shr : FnScope ["x", "y"] ["x", "y"] (defScope s_shr) := ⟨rfl, rfl, rfl, by decide +kernel, rfl, by decide +kernel, by decide +kernel⟩
theorem sc_sar : FnScope ["x", "y"] ["x", "y"] (defScope s_sar) := ⟨rfl, rfl, rfl, by decide +kernel, rfl, by decide +kernel, by decide +kernel⟩
theorem sc_slt : FnScope ["x", "y"] ["x", "y"] (defScope s_slt) := ⟨rfl, rfl, rfl, by decide +kernel, rfl, by decide +kernel, by decide +kernel⟩
theorem sc_sltu : FnScope ["x", "y"] ["x", "y"] (defScope s_sltu) := ⟨rfl, rfl, rfl, by decide +kernel, rfl, by decide +kernel, by decide +kernel⟩
theorem sc_divu_1 : FnScope ["x", "y"] ["x", "y"] (defScope s_divu_1) := ⟨rfl, rfl, rfl, by decide +kernel, rfl, by decide +kernel, by decide +kernel⟩
theorem sc_remu_1 : FnScope ["x", "y"] ["x", "y"] (defScope s_remu_1) := ⟨rfl, rfl, rfl, by decide +kernel, rfl, by decide +kernel, by decide +kernel⟩
theorem sc_compute : FnScope ["op", "x", "y", "result_of"] ["op", "x", "y"] (defScope s_compute) := ⟨rfl, rfl, rfl, by decide +kernel, rfl, by decide +kernel, by decide +kernel⟩
theorem sc_law_signed : FnScope ["x"] ["x"] (defScope s_law_signed) := ⟨rfl, rfl, rfl, by decide +kernel, rfl, by decide +kernel, by decide +kernel⟩
theorem sc_law_compute : FnScope ["op", "x", "y", "top"] ["op", "x", "y"] (defScope s_law_compute) := ⟨rfl, rfl, rfl, by decide +kernel, rfl, by decide +kernel, by decide +kernel⟩
theorem sc_law_holds : FnScope ["op", "x", "y"] ["op", "x", "y"] (defScope s_law_holds) := ⟨rfl, rfl, rfl, by decide +kernel, rfl, by decide +kernel, by decide +kernel⟩
abbrev spSgn : Sp := spI1 W32 fun x => .int (sgn x)
def tab13 : List (Str × (Int → Int → Int)) := [("add", dAdd), ("sub", dSub), ("mul", dMul), ("and", dAnd), ("or", dOr), ("xor", dXor), ("shl", dShl), ("shr", dShr), ("sar", dSar), ("slt", dSlt), ("sltu", dSltu), ("divu", dDivu), ("remu", dRemu)]
def tab8 : List (Str × (Int → Int → Int)) := [("addi", dAdd), ("andi", dAnd), ("ori", dOr), ("xori", dXor), ("shli", dShl), ("shri", dShr), ("sari", dSar), ("slti", dSlt)]
def tab6 : List (Str × (Int → Int → Bool)) := [("beq", fun x y => decide (x = y)), ("bne", fun x y => !decide (x = y)), ("blt", fun x y => decide (sgn x < sgn y)), ("bge", fun x y => decide (sgn y ≤ sgn x)), ("bltu", fun x y => decide (x < y)), ("bgeu", fun x y => decide (y ≤ x))]
def spComp : Sp := fun vs H Q _ => ∃ (op : Str) (g : Int → Int → Int) (x y : Int), vs = [.str op, .int x, .int y] ∧ (op, g) ∈ tab13 ++ tab8 ∧ W32 x ∧ W32 y ∧ Q (.int (g x y)) H
def spHolds : Sp := fun vs H Q _ => ∃ (op : Str) (g : Int → Int → Bool) (x y : Int), vs = [.str op, .int x, .int y] ∧ (op, g) ∈ tab6 ∧ W32 x ∧ W32 y ∧ Q (.bl (g x y)) H
def spCompL : Sp := fun vs H Q _ => ∃ (op : Str) (g : Int → Int → Int) (x y : Int), vs = [.str op, .int x, .int y] ∧ (op, g) ∈ tab13 ∧ W32 x ∧ W32 y ∧ Q (.int (g x y)) H
section
variable {P : Program} {w : World} {K : PySem.W.Frag} {mg : Str → Option Value} {base : Heap}
theorem ok_signed (T : Mtx K mg) (Z : St1 K mg "_signed" s_signed ["word"]) : Cd P w K mg base 1 "_signed" spSgn := by
  obtain ⟨g_MASK, g_HALF, g_WORDS_IN_ALL⟩ := T
  refine Z.cd sc_signed len_spI1 (fun f cdv A outer s H vs Q E hr h => ?_)
  obtain ⟨x, rfl, _, q⟩ := h
  refine ⟨_, (pss_one (ps_ret (pe_ifExp (pt_cmpR op_ge (pv 0) (pe_gv (by rfl) g_HALF) (nomark _)) (pe_op op_sub (pv 0) (pe_gv (by rfl) g_WORDS_IN_ALL)) (pv 0)))), ?_⟩
  walk_at "ws"
  refine w_dec (fun e => ?_) (fun e => ?_)
  · walk_at "ws"
    simpa only [sgn, if_pos e] using q
  · walk_at "ws"
    simpa only [sgn, if_neg e] using q
theorem ok_law_signed (Z : St1 K mg "_law_signed" s_law_signed ["x"]) : Cd P w K mg base 1 "_law_signed" spSgn := by
  refine Z.cd sc_law_signed len_spI1 (fun f cdv A outer s H vs Q E hr h => ?_)
  obtain ⟨x, rfl, _, q⟩ := h
  refine ⟨_, (pss_cons (ps_if (pt_cmpR op_ge (pv 0) pe_int (nomark _)) (pss_one (ps_ret (pe_op op_sub (pv 0) pe_int))) pss_nil)
      (pss_one (ps_ret (pv 0)))), ?_⟩
  walk_at "ws"
  refine w_dec (fun e => ?_) (fun e => ?_)
  · walk_at "ws"
    simpa only [sgn, if_pos e] using q
  · walk_at "ws"
    simpa only [sgn, if_neg e] using q
theorem om_add {fa : Addr} (T : Mtx K mg) (Z : StF K "_add" s_add ["x", "y"] fa) : Held P w K mg base 2 fa (spOp dAdd) := by
  obtain ⟨g_MASK, g_HALF, g_WORDS_IN_ALL⟩ := T
  refine Z.cd sc_add len_spI2 (fun f cdv A outer s H vs Q E hr h => ?_)
  obtain ⟨x, y, rfl, ⟨hx, hy⟩, q⟩ := h
  refine ⟨_, (pss_one (ps_ret (pe_op op_and (pe_op op_add (pv 0) (pv 1)) (pe_gv (by rfl) g_MASK)))), ?_⟩
  walk_at "ws"
  rw [bitAnd_m32]; exact q
theorem om_sub {fa : Addr} (T : Mtx K mg) (Z : StF K "_sub" s_sub ["x", "y"] fa) : Held P w K mg base 2 fa (spOp dSub) := by
  obtain ⟨g_MASK, g_HALF, g_WORDS_IN_ALL⟩ := T
  refine Z.cd sc_sub len_spI2 (fun f cdv A outer s H vs Q E hr h => ?_)
  obtain ⟨x, y, rfl, ⟨hx, hy⟩, q⟩ := h
  refine ⟨_, (pss_one (ps_ret (pe_op op_and (pe_op op_sub (pv 0) (pv 1)) (pe_gv (by rfl) g_MASK)))), ?_⟩
  walk_at "ws"
  rw [bitAnd_m32]; exact q
theorem om_mul {fa : Addr} (T : Mtx K mg) (Z : StF K "_mul" s_mul_1 ["x", "y"] fa) : Held P w K mg base 2 fa (spOp dMul) := by
  obtain ⟨g_MASK, g_HALF, g_WORDS_IN_ALL⟩ := T
  refine Z.cd sc_mul_1 len_spI2 (fun f cdv A outer s H vs Q E hr h => ?_)
  obtain ⟨x, y, rfl, ⟨⟨hx, hx'⟩, hy, hy'⟩, q⟩ := h
  refine ⟨_, (pss_one (ps_ret (pe_op op_and (pe_op op_mul (pv 0) (pv 1)) (pe_gv (by rfl) g_MASK)))), ?_⟩
  walk_at "ws"
  rw [bitAnd_m32]; exact q
theorem om_and {fa : Addr} (Z : StF K "_and" s_and_1 ["x", "y"] fa) : Held P w K mg base 2 fa (spOp dAnd) := by
  refine Z.cd sc_and_1 len_spI2 (fun f cdv A outer s H vs Q E hr h => ?_)
  obtain ⟨x, y, rfl, ⟨⟨hx, hx'⟩, hy, hy'⟩, q⟩ := h
  refine ⟨_, (pss_one (ps_ret (pe_op op_and (pv 0) (pv 1)))), ?_⟩
  walk_at "ws"
  exact q
theorem om_or {fa : Addr} (Z : StF K "_or" s_or_1 ["x", "y"] fa) : Held P w K mg base 2 fa (spOp dOr) := by
  refine Z.cd sc_or_1 len_spI2 (fun f cdv A outer s H vs Q E hr h => ?_)
  obtain ⟨x, y, rfl, ⟨⟨hx, hx'⟩, hy, hy'⟩, q⟩ := h
  refine ⟨_, (pss_one (ps_ret (pe_op op_or (pv 0) (pv 1)))), ?_⟩
  walk_at "ws"
  exact q
theorem om_xor {fa : Addr} (Z : StF K "_xor" s_xor_1 ["x", "y"] fa) : Held P w K mg base 2 fa (spOp dXor) := by
  refine Z.cd sc_xor_1 len_spI2 (fun f cdv A outer s H vs Q E hr h => ?_)
  obtain ⟨x, y, rfl, ⟨⟨hx, hx'⟩, hy, hy'⟩, q⟩ := h
  refine ⟨_, (pss_one (ps_ret (pe_op op_xor (pv 0) (pv 1)))), ?_⟩
  walk_at "ws"
  exact q
theorem om_shl {fa : Addr} (T : Mtx K mg) (Z : StF K "_shl" s_shl ["x", "y"] fa) : Held P w K mg base 2 fa (spOp dShl) := by
  obtain ⟨g_MASK, g_HALF, g_WORDS_IN_ALL⟩ := T
  refine Z.cd sc_shl len_spI2 (fun f cdv A outer s H vs Q E hr h => ?_)
  obtain ⟨x, y, rfl, ⟨⟨hx, hx'⟩, hy, hy'⟩, q⟩ := h
  refine ⟨_, (pss_one (ps_ret (pe_op op_and (pe_op op_shl (pv 0) (pe_op op_and (pv 1) pe_int)) (pe_gv (by rfl) g_MASK)))), ?_⟩
  walk_at "ws"
  rw [bitAnd_m5]
  refine w_I ⟨by omega, by omega, by show x.natAbs < 18446744073709551616; omega⟩ ?_
  walk_at "ws"
  rw [bitAnd_m32]; exact q
theorem om_shr {fa : Addr} (Z : StF K "_shr" s_shr ["x", "y"] fa) : Held P w K mg base 2 fa (spOp dShr) := by
  refine Z.cd sc_shr len_spI2 (fun f cdv A outer s H vs Q E hr h => ?_)
  obtain ⟨x, y, rfl, ⟨⟨hx, hx'⟩, hy, hy'⟩, q⟩ := h
  refine ⟨_, (pss_one (ps_ret (pe_op op_shr (pv 0) (pe_op op_and (pv 1) pe_int)))), ?_⟩
  walk_at "ws"
  rw [bitAnd_m5]
  walk_at "ws"
  exact q
theorem om_sar {fa : Addr} (T : Mtx K mg) (c_signed : Cd P w K mg base 1 "_signed" spSgn) (Z : StF K "_sar" s_sar ["x", "y"] fa) : Held P w K mg base 2 fa (spOp dSar) := by
  obtain ⟨g_MASK, g_HALF, g_WORDS_IN_ALL⟩ := T
  refine Z.cd sc_sar len_spI2 (fun f cdv A outer s H vs Q E hr h => ?_)
  obtain ⟨x, y, rfl, ⟨hx, hy⟩, q⟩ := h
  refine ⟨_, (pss_one (ps_ret (pe_op op_and (pe_op op_shr (pe_cd c_signed hr (by first | decide | omega) (by rfl) (pa_cons (pv 0) pa_nil)) (pe_op op_and (pv 1) pe_int)) (pe_gv (by rfl) g_MASK)))), ?_⟩
  walk_at "ws"
  rw [bitAnd_m5]
  walk_at "ws"
  rw [bitAnd_m32]; exact q
theorem om_slt {fa : Addr} (c_signed : Cd P w K mg base 1 "_signed" spSgn) (Z : StF K "_slt" s_slt ["x", "y"] fa) : Held P w K mg base 2 fa (spOp dSlt) := by
  refine Z.cd sc_slt len_spI2 (fun f cdv A outer s H vs Q E hr h => ?_)
  obtain ⟨x, y, rfl, ⟨hx, hy⟩, q⟩ := h
  refine ⟨_, (pss_one (ps_ret (pe_ifExp (pt_cmpR op_lt (pe_cd c_signed hr (by first | decide | omega) (by rfl) (pa_cons (pv 0) pa_nil)) (pe_cd c_signed hr (by first | decide | omega) (by rfl) (pa_cons (pv 1) pa_nil)) (nomark _)) pe_int pe_int))), ?_⟩
  walk_at "ws"
  refine w_dec (fun e => ?_) (fun e => ?_)
  · walk_at "ws"
    simpa only [dSlt, if_pos e] using q
  · walk_at "ws"
    simpa only [dSlt, if_neg e] using q
theorem om_sltu {fa : Addr} (Z : StF K "_sltu" s_sltu ["x", "y"] fa) : Held P w K mg base 2 fa (spOp dSltu) := by
  refine Z.cd sc_sltu len_spI2 (fun f cdv A outer s H vs Q E hr h => ?_)
  obtain ⟨x, y, rfl, ⟨hx, hy⟩, q⟩ := h
  refine ⟨_, (pss_one (ps_ret (pe_ifExp (pt_cmpR op_lt (pv 0) (pv 1) (nomark _)) pe_int pe_int))), ?_⟩
  walk_at "ws"
  refine w_dec (fun e => ?_) (fun e => ?_)
  · walk_at "ws"
    simpa only [dSltu, if_pos e] using q
  · walk_at "ws"
    simpa only [dSltu, if_neg e] using q
theorem om_divu {fa : Addr} (T : Mtx K mg) (Z : StF K "_divu" s_divu_1 ["x", "y"] fa) : Held P w K mg base 2 fa (spOp dDivu) := by
  obtain ⟨g_MASK, g_HALF, g_WORDS_IN_ALL⟩ := T
  refine Z.cd sc_divu_1 len_spI2 (fun f cdv A outer s H vs Q E hr h => ?_)
  obtain ⟨x, y, rfl, ⟨⟨hx, hx'⟩, hy, hy'⟩, q⟩ := h
  refine ⟨_, (pss_one (ps_ret (pe_ifExp (pt_cmpR op_eq (pv 1) pe_int (nomark _)) (pe_gv (by rfl) g_MASK) (pe_op op_fdivW (pv 0) (pv 1))))), ?_⟩
  walk_at "ws"
  refine w_dec (fun e => ?_) (fun e => ?_)
  · walk_at "ws"
    simpa only [dDivu, if_pos e] using q
  · walk_at "ws"
    simpa only [dDivu, if_neg e] using q
theorem om_remu {fa : Addr} (Z : StF K "_remu" s_remu_1 ["x", "y"] fa) : Held P w K mg base 2 fa (spOp dRemu) := by
  refine Z.cd sc_remu_1 len_spI2 (fun f cdv A outer s H vs Q E hr h => ?_)
  obtain ⟨x, y, rfl, ⟨⟨hx, hx'⟩, hy, hy'⟩, q⟩ := h
  refine ⟨_, (pss_one (ps_ret (pe_ifExp (pt_cmpR op_eq (pv 1) pe_int (nomark _)) (pv 0) (pe_op op_mod (pv 0) (pv 1))))), ?_⟩
  walk_at "ws"
  refine w_dec (fun e => ?_) (fun e => ?_)
  · walk_at "ws"
    simpa only [dRemu, if_pos e] using q
  · walk_at "ws"
    simpa only [dRemu, if_neg e] using q
theorem ok_compute {R : Addr} (gR : GV mg "RESULTS" (.ref R)) (rows : ∀ p ∈ tab13 ++ tab8, ∃ f, KDct K w R p.1 (.ref f) ∧ Held P w K mg base 2 f (spOp p.2)) (Z : St1 K mg "compute" s_compute ["op", "x", "y"]) : Cd P w K mg base 3 "compute" spComp := by
  refine Z.cd sc_compute (fun vs H Q E h => by obtain ⟨op, g, x, y, rfl, _⟩ := h; rfl) (fun f cdv A outer s H vs Q E hr h => ?_)
  obtain ⟨op, g, x, y, rfl, hm, hx, hy, q⟩ := h
  obtain ⟨f, hk, hf⟩ := rows _ hm
  refine ⟨_, (pss_cons (ps_set (i := 3) sc_compute.nd rfl (.inl rfl) (pe_ix ix_kdict (pe_gv (by rfl) gR) (pv 0) (fun _ _ => rfl)))
      (pss_one (ps_ret (pe_callZ (i := 3) hr rfl (Or.inl rfl) (pa_cons (pv 1) (pa_cons (pv 2) pa_nil)))))), ?_⟩
  walk_at "ws"
  refine w_ixD hk ?_
  walk_at "ws"
  refine w_callZ rfl hf ?_
  walk_at "ws"
  exact ⟨x, y, rfl, ⟨hx, hy⟩, q⟩
end
end K30

open PySem.W
namespace K30
theorem sc_plain_op : FnScope ["op"] ["op"] (defScope s_plain_op) := ⟨rfl, rfl, rfl, by decide +kernel, rfl, by decide +kernel, by decide +kernel⟩
section
variable {P : Program} {w : World} {K : PySem.W.Frag} {mg : Str → Option Value} {base : Heap}
theorem pow2_lt {n : Nat} (h : n < 32) : (0 : Int) < 2 ^ n ∧ (2 : Int) ^ n < 4294967296 := (by decide : ∀ n : _root_.Fin 32, (0 : Int) < 2 ^ n.val ∧ (2 : Int) ^ n.val < 4294967296) ⟨n, h⟩
theorem w_intB {b : Bool} {H : Hp} {Q : VK} (q : Q (.int (if b then 1 else 0)) H) : rIntQ [.bl b] H Q := .inr ⟨b, rfl, q⟩
theorem ok_law_holds (c_law_signed : Cd P w K mg base 1 "_law_signed" spSgn) (Z : St1 K mg "_law_holds" s_law_holds ["op", "x", "y"]) : Cd P w K mg base 2 "_law_holds" spHolds := by
  refine Z.cd sc_law_holds (fun vs H Q E h => by obtain ⟨op, g, x, y, rfl, _⟩ := h; rfl) (fun f cdv A outer s H vs Q E hr h => ?_)
  obtain ⟨op, g, x, y, rfl, hm, hx, hy, q⟩ := h
  refine ⟨_, (pss_cons (ps_if (pt_cmpR op_eq (pv 0) pe_str (nomark _)) (pss_one (ps_ret (pe_cmpR op_eq (pv 1) (pv 2) (nomark _)))) pss_nil)
      (pss_cons (ps_if (pt_cmpR op_eq (pv 0) pe_str (nomark _)) (pss_one (ps_ret (pe_cmpR op_ne (pv 1) (pv 2) (nomark _)))) pss_nil)
      (pss_cons (ps_if (pt_cmpR op_eq (pv 0) pe_str (nomark _)) (pss_one (ps_ret (pe_cmpR op_lt (pe_cd c_law_signed hr (by first | decide | omega) (by rfl) (pa_cons (pv 1) pa_nil)) (pe_cd c_law_signed hr (by first | decide | omega) (by rfl) (pa_cons (pv 2) pa_nil)) (nomark _)))) pss_nil)
      (pss_cons (ps_if (pt_cmpR op_eq (pv 0) pe_str (nomark _)) (pss_one (ps_ret (pe_cmpR op_ge (pe_cd c_law_signed hr (by first | decide | omega) (by rfl) (pa_cons (pv 1) pa_nil)) (pe_cd c_law_signed hr (by first | decide | omega) (by rfl) (pa_cons (pv 2) pa_nil)) (nomark _)))) pss_nil)
      (pss_cons (ps_if (pt_cmpR op_eq (pv 0) pe_str (nomark _)) (pss_one (ps_ret (pe_cmpR op_lt (pv 1) (pv 2) (nomark _)))) pss_nil)
      (pss_one (ps_ret (pe_cmpR op_ge (pv 1) (pv 2) (nomark _))))))))), ?_⟩
  simp only [tab6, List.mem_cons, Prod.mk.injEq, List.not_mem_nil, or_false] at hm
  rcases hm with ⟨rfl, rfl⟩ | ⟨rfl, rfl⟩ | ⟨rfl, rfl⟩ | ⟨rfl, rfl⟩ | ⟨rfl, rfl⟩ | ⟨rfl, rfl⟩
  all_goals
    walk_at "wd"
    exact q
theorem ok_law_compute (b_int : mg "int" = none) (c_law_signed : Cd P w K mg base 1 "_law_signed" spSgn) (Z : St1 K mg "_law_compute" s_law_compute ["op", "x", "y"]) : Cd P w K mg base 2 "_law_compute" spCompL := by
  refine Z.cd sc_law_compute (fun vs H Q E h => by obtain ⟨op, g, x, y, rfl, _⟩ := h; rfl) (fun f cdv A outer s H vs Q E hr h => ?_)
  obtain ⟨op, g, x, y, rfl, hm, hx, hy, q⟩ := h
  refine ⟨_, (pss_cons (ps_set (i := 3) sc_law_compute.nd rfl (.inl rfl) pe_int)
      (pss_cons (ps_if (pt_cmpR op_eq (pv 0) pe_str (nomark _)) (pss_one (ps_ret (pe_op op_and (pe_op op_add (pv 1) (pv 2)) (pv 3)))) pss_nil)
      (pss_cons (ps_if (pt_cmpR op_eq (pv 0) pe_str (nomark _)) (pss_one (ps_ret (pe_op op_and (pe_op op_sub (pv 1) (pv 2)) (pv 3)))) pss_nil)
      (pss_cons (ps_if (pt_cmpR op_eq (pv 0) pe_str (nomark _)) (pss_one (ps_ret (pe_op op_and (pe_op op_mul (pv 1) (pv 2)) (pv 3)))) pss_nil)
      (pss_cons (ps_if (pt_cmpR op_eq (pv 0) pe_str (nomark _)) (pss_one (ps_ret (pe_op op_and (pv 1) (pv 2)))) pss_nil)
      (pss_cons (ps_if (pt_cmpR op_eq (pv 0) pe_str (nomark _)) (pss_one (ps_ret (pe_op op_or (pv 1) (pv 2)))) pss_nil)
      (pss_cons (ps_if (pt_cmpR op_eq (pv 0) pe_str (nomark _)) (pss_one (ps_ret (pe_op op_xor (pv 1) (pv 2)))) pss_nil)
      (pss_cons (ps_if (pt_cmpR op_eq (pv 0) pe_str (nomark _)) (pss_one (ps_ret (pe_op op_and (pe_op op_mul (pv 1) (pe_op op_shl pe_int (pe_op op_and (pv 2) pe_int))) (pv 3)))) pss_nil)
      (pss_cons (ps_if (pt_cmpR op_eq (pv 0) pe_str (nomark _)) (pss_one (ps_ret (pe_op op_fdivW (pv 1) (pe_op op_shl pe_int (pe_op op_and (pv 2) pe_int))))) pss_nil)
      (pss_cons (ps_if (pt_cmpR op_eq (pv 0) pe_str (nomark _)) (pss_one (ps_ret (pe_op op_and (pe_op op_fdivW (pe_cd c_law_signed hr (by first | decide | omega) (by rfl) (pa_cons (pv 1) pa_nil)) (pe_op op_shl pe_int (pe_op op_and (pv 2) pe_int))) (pv 3)))) pss_nil)
      (pss_cons (ps_if (pt_cmpR op_eq (pv 0) pe_str (nomark _)) (pss_one (ps_ret (pe_callTy call_intQ (by rfl) b_int (by decide +kernel) (pa_cons (pe_cmpR op_lt (pe_cd c_law_signed hr (by first | decide | omega) (by rfl) (pa_cons (pv 1) pa_nil)) (pe_cd c_law_signed hr (by first | decide | omega) (by rfl) (pa_cons (pv 2) pa_nil)) (nomark _)) pa_nil)))) pss_nil)
      (pss_cons (ps_if (pt_cmpR op_eq (pv 0) pe_str (nomark _)) (pss_one (ps_ret (pe_callTy call_intQ (by rfl) b_int (by decide +kernel) (pa_cons (pe_cmpR op_lt (pv 1) (pv 2) (nomark _)) pa_nil)))) pss_nil)
      (pss_cons (ps_if (pt_cmpR op_eq (pv 0) pe_str (nomark _)) (pss_one (ps_ret (pe_ifExp (pt_cmpR op_eq (pv 2) pe_int (nomark _)) (pv 3) (pe_op op_fdivW (pv 1) (pv 2))))) pss_nil)
      (pss_one (ps_ret (pe_ifExp (pt_cmpR op_eq (pv 2) pe_int (nomark _)) (pv 1) (pe_op op_sub (pv 1) (pe_op op_mul (pe_op op_fdivW (pv 1) (pv 2)) (pv 2))))))))))))))))))), ?_⟩
  have x0 := hx.1
  have x1 := hx.2
  have y0 := hy.1
  have y1 := hy.2
  have m0 : 0 ≤ y % 32 := Int.emod_nonneg _ (by decide)
  have m1 : y % 32 < 32 := Int.emod_lt_of_pos _ (by decide)
  have p2 := pow2_lt (n := (y % 32).toNat) (by omega)
  have e1 : (1 * 2 ^ (y % 32).toNat : Int) = 2 ^ (y % 32).toNat := Int.one_mul _
  simp only [tab13, List.mem_cons, Prod.mk.injEq, List.not_mem_nil, or_false] at hm
  rcases hm with ⟨rfl, rfl⟩ | ⟨rfl, rfl⟩ | ⟨rfl, rfl⟩ | ⟨rfl, rfl⟩ | ⟨rfl, rfl⟩ | ⟨rfl, rfl⟩ | ⟨rfl, rfl⟩ | ⟨rfl, rfl⟩ | ⟨rfl, rfl⟩ | ⟨rfl, rfl⟩ | ⟨rfl, rfl⟩ | ⟨rfl, rfl⟩ | ⟨rfl, rfl⟩
  all_goals walk_at "wd"
  · rw [bitAnd_m32]; exact q
  · rw [bitAnd_m32]; exact q
  · rw [bitAnd_m32]; exact q
  · exact q
  · exact q
  · exact q
  · rw [bitAnd_m5]
    walk_at "ws"
    rw [e1, bitAnd_m32]; exact q
  · rw [bitAnd_m5]
    walk_at "ws"
    rw [e1]; exact q
  · rw [bitAnd_m5]
    walk_at "ws"
    rw [e1, bitAnd_m32]; exact q
  · refine w_intB ?_
    simpa only [dSlt, decide_eq_true_eq] using q
  · refine w_intB ?_
    simpa only [dSltu, decide_eq_true_eq] using q
  · refine w_dec (fun e => ?_) (fun e => ?_)
    · walk_at "ws"
      simpa only [dDivu, if_pos e] using q
    · walk_at "ws"
      simpa only [dDivu, if_neg e] using q
  · refine w_dec (fun e => ?_) (fun e => ?_)
    · walk_at "ws"
      simpa only [dRemu, if_pos e] using q
    · walk_at "ws"
      rw [Int.mul_comm (x / y) y, ← Int.emod_def]
      simpa only [dRemu, if_neg e] using q
def tabI : List (Str × Str) := [("addi", "add"), ("andi", "and"), ("ori", "or"), ("xori", "xor"), ("shli", "shl"), ("shri", "shr"), ("sari", "sar"), ("slti", "slt")]
def names13 : List Str := tab13.map (·.1)
def plR (op p : Str) : Prop := (op = p ∧ op ∈ names13) ∨ (op, p) ∈ tabI
def spPlain : Sp := fun vs H Q _ => ∃ op p : Str, vs = [.str op] ∧ plR op p ∧ Q (.str p) H
theorem ok_plain_op {I : Addr} (gI : GV mg "OPS_OF_IMMEDIATES" (.ref I)) (none13 : ∀ op ∈ names13, KGet K w I op none) (some8 : ∀ p ∈ tabI, KGet K w I p.1 (some (.str p.2))) (Z : St1 K mg "plain_op" s_plain_op ["op"]) : Cd P w K mg base 1 "plain_op" spPlain := by
  refine Z.cd sc_plain_op (fun vs H Q E h => by obtain ⟨op, p, rfl, _⟩ := h; rfl) (fun f cdv A outer s H vs Q E hr h => ?_)
  obtain ⟨op, p, rfl, hm, q⟩ := h
  refine ⟨_, (pss_one (ps_ret (pe_kget2 (pe_gv (by rfl) gI) (pv 0) (pv 0)))), ?_⟩
  walk_at "ws"
  refine w_kget2 ?_
  walk_at "ws"
  rcases hm with ⟨rfl, hm⟩ | hm
  · refine ⟨_, rfl, ⟨_, _, none13 op hm⟩, ?_⟩
    walk_at "ws"
    exact ⟨op, none, rfl, none13 op hm, q⟩
  · refine ⟨_, rfl, ⟨_, _, some8 _ hm⟩, ?_⟩
    walk_at "ws"
    exact ⟨op, some (.str p), rfl, some8 _ hm, q⟩
end
end K30


open PySem.W
namespace K30
/-! terms: nodes, their values, linear forms (plain mathematics) -/
inductive Nd where
  | word (w : Int)
  | leaf (k : Str) (n : Nat)
  | op (o : Str) (s t : Nat)
  | sum (c : Int) (ps : List (Nat × Int))
  deriving DecidableEq
abbrev M32 : Int := 4294967296
structure Env3 where
  regs : List Int
  loads : List Int
  gets : List Int
def Env3.leaf (e : Env3) (k : Str) (n : Nat) : Int := if k = "load" then e.loads.getD n 0 else if k = "get" then e.gets.getD n 0 else e.regs.getD n 0
def Env3.Ok (e : Env3) : Prop := (e.regs.length = 16 ∧ ∀ x ∈ e.regs, W32 x) ∧ (e.loads.length = 3 ∧ ∀ x ∈ e.loads, W32 x) ∧ (e.gets.length = 3 ∧ ∀ x ∈ e.gets, W32 x)
def opF (o : Str) : Int → Int → Int := match tab13.find? fun p => p.1 = o with | some p => p.2 | none => dAdd
def sumV (vs : List Int) (ps : List (Nat × Int)) : Int := (ps.map fun p => p.2 * vs.getD p.1 0).sum
def ndVal (e : Env3) (vs : List Int) : Nd → Int
  | .word w => w
  | .leaf k n => e.leaf k n
  | .op o s t => opF o (vs.getD s 0) (vs.getD t 0)
  | .sum c ps => (c + sumV vs ps) % M32
def valsA (e : Env3) (ns : List Nd) (acc : List Int) : List Int := ns.foldl (fun acc nd => acc ++ [ndVal e acc nd]) acc
def vals (e : Env3) (ns : List Nd) : List Int := valsA e ns []
def val (e : Env3) (ns : List Nd) (j : Nat) : Int := (vals e ns).getD j 0
theorem valsA_app (e : Env3) (ns ms : List Nd) (acc : List Int) : valsA e (ns ++ ms) acc = valsA e ms (valsA e ns acc) := by unfold valsA; rw [List.foldl_append]
theorem vals_snoc (e : Env3) (ns : List Nd) (nd : Nd) : vals e (ns ++ [nd]) = vals e ns ++ [ndVal e (vals e ns) nd] := by unfold vals; rw [valsA_app]; rfl
theorem vals_len (e : Env3) : ∀ ns : List Nd, (vals e ns).length = ns.length := by
  have h : ∀ (ns : List Nd) (acc : List Int), (valsA e ns acc).length = acc.length + ns.length := by
    intro ns
    induction ns with
    | nil => intro acc; rfl
    | cons x r ih => intro acc; show (valsA e r (acc ++ [ndVal e acc x])).length = _; rw [ih]; simp only [List.length_append, List.length_cons, List.length_nil]; omega
  intro ns
  unfold vals
  rw [h]
  exact Nat.zero_add _
theorem val_last (e : Env3) (ns : List Nd) (nd : Nd) : val e (ns ++ [nd]) ns.length = ndVal e (vals e ns) nd := by
  unfold val
  rw [vals_snoc, List.getD_eq_getElem?_getD, List.getElem?_append_right (by rw [vals_len]; exact Nat.le_refl _), vals_len, Nat.sub_self]
  rfl
theorem val_snoc (e : Env3) {ns : List Nd} {j : Nat} (h : j < ns.length) (nd : Nd) : val e (ns ++ [nd]) j = val e ns j := by
  unfold val
  rw [vals_snoc, List.getD_eq_getElem?_getD, List.getElem?_append_left (by rw [vals_len]; exact h), List.getD_eq_getElem?_getD]
/-- what stands in a pool: ns is a beginning of ms -/
theorem val_pre (e : Env3) {ns ms : List Nd} (h : ns <+: ms) {j : Nat} (hj : j < ns.length) : val e ms j = val e ns j := by
  obtain ⟨r, rfl⟩ := h
  induction r generalizing ns with
  | nil => rw [List.append_nil]
  | cons x r ih =>
    have := ih (ns := ns ++ [x]) (by rw [List.length_append]; omega)
    rw [List.append_assoc, List.singleton_append] at this
    rw [this, val_snoc e hj]
theorem pre_get {α : Type} {ns ms : List α} (h : ns <+: ms) {j : Nat} (hj : j < ns.length) : ms[j]? = ns[j]? := by
  obtain ⟨r, rfl⟩ := h
  rw [List.getElem?_append_left hj]
theorem pre_get' {α : Type} {ns ms : List α} (h : ns <+: ms) {j : Nat} {x : α} (hx : ns[j]? = some x) : ms[j]? = some x := by rw [pre_get h (List.getElem?_eq_some_iff.mp hx).1]; exact hx
def LeafOk (k : Str) (n : Nat) : Prop := ((k = "in" ∨ k = "loose") ∧ n < 16) ∨ ((k = "load" ∨ k = "get") ∧ n < 3)
def IsOp (o : Str) : Prop := ∃ g, (o, g) ∈ tab13
def Nd.Flat : Nd → Prop
  | .leaf _ _ => True
  | .op _ _ _ => True
  | _ => False
def Atom (ns : List Nd) (t : Nat) : Prop := ∃ nd, ns[t]? = some nd ∧ nd.Flat
def SumOk (c : Int) (ps : List (Nat × Int)) : Prop := W32 c ∧ ps.Pairwise (fun a b => a.1 < b.1) ∧ (∀ p ∈ ps, 1 ≤ p.2 ∧ p.2 < M32) ∧ ps ≠ [] ∧ (¬ ∃ t, c = 0 ∧ ps = [(t, 1)]) ∧ ps.length ≤ 12
def Nd.Ok (ns : List Nd) (j : Nat) : Nd → Prop
  | .word w => W32 w
  | .leaf k n => LeafOk k n
  | .op o s t => IsOp o ∧ s < j ∧ t < j
  | .sum c ps => SumOk c ps ∧ ∀ p ∈ ps, p.1 < j ∧ Atom ns p.1
structure PWf (ns : List Nd) : Prop where
  nd : ns.Nodup
  ok : ∀ (j : Nat) (x : Nd), ns[j]? = some x → x.Ok ns j
theorem Atom.pre {ns ms : List Nd} (h : ns <+: ms) {t : Nat} (a : Atom ns t) : Atom ms t := by obtain ⟨x, e, f⟩ := a; exact ⟨x, pre_get' h e, f⟩
theorem Atom.lt {ns : List Nd} {t : Nat} (a : Atom ns t) : t < ns.length := by obtain ⟨x, e, f⟩ := a; exact (List.getElem?_eq_some_iff.mp e).1
theorem Nd.Ok.pre {ns ms : List Nd} (h : ns <+: ms) {j : Nat} {x : Nd} (o : x.Ok ns j) : x.Ok ms j := by
  cases x with
  | word w => exact o
  | leaf k n => exact o
  | op a s t => exact o
  | sum c ps => exact ⟨o.1, fun p hp => ⟨(o.2 p hp).1, (o.2 p hp).2.pre h⟩⟩
theorem PWf.snoc {ns : List Nd} (W : PWf ns) {x : Nd} (n : x ∉ ns) (o : x.Ok ns ns.length) : PWf (ns ++ [x]) := by
  have pr : ns <+: ns ++ [x] := List.prefix_append _ _
  refine ⟨List.nodup_append.mpr ⟨W.nd, by simp, fun a ha b hb e => ?_⟩, fun j y hy => ?_⟩
  · rw [List.mem_singleton] at hb; subst hb; subst e; exact n ha
  · rcases Nat.lt_or_ge j ns.length with lt | ge
    · rw [List.getElem?_append_left lt] at hy; exact (W.ok j y hy).pre pr
    · have hj := (List.getElem?_eq_some_iff.mp hy).1
      rw [List.length_append, List.length_singleton] at hj
      obtain rfl : j = ns.length := by omega
      rw [List.getElem?_append_right (Nat.le_refl _), Nat.sub_self] at hy
      cases hy
      exact o.pre pr
theorem opF_of {o : Str} {g : Int → Int → Int} (h : (o, g) ∈ tab13) : opF o = g := by
  simp only [tab13, List.mem_cons, Prod.mk.injEq, List.not_mem_nil, or_false] at h
  rcases h with ⟨rfl, rfl⟩ | ⟨rfl, rfl⟩ | ⟨rfl, rfl⟩ | ⟨rfl, rfl⟩ | ⟨rfl, rfl⟩ | ⟨rfl, rfl⟩ | ⟨rfl, rfl⟩ | ⟨rfl, rfl⟩ | ⟨rfl, rfl⟩ | ⟨rfl, rfl⟩ | ⟨rfl, rfl⟩ | ⟨rfl, rfl⟩ | ⟨rfl, rfl⟩ <;> rfl
end K30


open PySem.W
namespace K30
theorem bitNot_eq (x : Int) : Builtin.bitNot x = -x - 1 := rfl
theorem and_nat (a b : Nat) : Builtin.bitAnd (a : Int) (b : Int) = ((a &&& b : Nat) : Int) := by
  unfold Builtin.bitAnd
  rw [decide_eq_true (Int.natCast_nonneg a), decide_eq_true (Int.natCast_nonneg b)]
  rfl
theorem or_nat (a b : Nat) : Builtin.bitOr (a : Int) (b : Int) = ((a ||| b : Nat) : Int) := by
  unfold Builtin.bitOr
  unfold Builtin.bitAnd
  have e1 : decide ((0 : Int) ≤ Builtin.bitNot (a : Int)) = false := by rw [bitNot_eq]; exact decide_eq_false (by omega)
  have e2 : decide ((0 : Int) ≤ Builtin.bitNot (b : Int)) = false := by rw [bitNot_eq]; exact decide_eq_false (by omega)
  rw [e1, e2]
  simp only [bitNot_eq]
  have f1 : (-(-(a : Int) - 1) - 1).toNat = a := by omega
  have f2 : (-(-(b : Int) - 1) - 1).toNat = b := by omega
  rw [f1, f2]
  omega
theorem and_bnd {x y : Int} (hx : W32 x) (hy : W32 y) : 0 ≤ Builtin.bitAnd x y ∧ Builtin.bitAnd x y ≤ x ∧ Builtin.bitAnd x y ≤ y := by
  obtain ⟨a, rfl⟩ := Int.eq_ofNat_of_zero_le hx.1
  obtain ⟨b, rfl⟩ := Int.eq_ofNat_of_zero_le hy.1
  rw [and_nat]
  have h1 : a &&& b ≤ a := Nat.and_le_left
  have h2 : a &&& b ≤ b := Nat.and_le_right
  omega
theorem or_bnd {x y : Int} {n : Nat} (hx : W32 x) (hy : W32 y) (h1 : x < 2 ^ n) (h2 : y < 2 ^ n) : 0 ≤ Builtin.bitOr x y ∧ Builtin.bitOr x y < 2 ^ n ∧ 0 ≤ Builtin.bitXor x y ∧ Builtin.bitXor x y < 2 ^ n := by
  obtain ⟨a, rfl⟩ := Int.eq_ofNat_of_zero_le hx.1
  obtain ⟨b, rfl⟩ := Int.eq_ofNat_of_zero_le hy.1
  unfold Builtin.bitXor
  rw [and_nat, or_nat]
  have g1 : a < 2 ^ n := by exact_mod_cast h1
  have g2 : b < 2 ^ n := by exact_mod_cast h2
  have h3 : a ||| b < 2 ^ n := Nat.or_lt_two_pow g1 g2
  have h3' : ((a ||| b : Nat) : Int) < 2 ^ n := by exact_mod_cast h3
  have h4 : a &&& b ≤ a := Nat.and_le_left
  have h5 : a ≤ a ||| b := Nat.left_le_or
  omega
theorem shr_bnd {x : Int} {n : Nat} (hx : W32 x) : 0 ≤ x / 2 ^ n ∧ x / 2 ^ n ≤ x := by
  have p : (0 : Int) < 2 ^ n := Int.pow_pos (by decide)
  exact ⟨Int.ediv_nonneg hx.1 (by omega), Int.ediv_le_self _ hx.1⟩
theorem sgn_bnd {x : Int} (hx : W32 x) : -2147483648 ≤ sgn x ∧ sgn x < 2147483648 := by
  unfold W32 at hx
  unfold sgn
  split <;> omega
theorem m32 (x : Int) : W32 (x % 4294967296) := ⟨Int.emod_nonneg _ (by decide), Int.emod_lt_of_pos _ (by decide)⟩
theorem word_of {op : Str} {g : Int → Int → Int} (hm : (op, g) ∈ tab13) {x y : Int} (hx : W32 x) (hy : W32 y) : W32 (g x y) := by
  have x0 := hx.1
  have x1 := hx.2
  have y0 := hy.1
  have y1 := hy.2
  have ab := and_bnd hx hy
  have ob := or_bnd (n := 32) hx hy (by omega) (by omega)
  simp only [tab13, List.mem_cons, Prod.mk.injEq, List.not_mem_nil, or_false] at hm
  rcases hm with ⟨rfl, rfl⟩ | ⟨rfl, rfl⟩ | ⟨rfl, rfl⟩ | ⟨rfl, rfl⟩ | ⟨rfl, rfl⟩ | ⟨rfl, rfl⟩ | ⟨rfl, rfl⟩ | ⟨rfl, rfl⟩ | ⟨rfl, rfl⟩ | ⟨rfl, rfl⟩ | ⟨rfl, rfl⟩ | ⟨rfl, rfl⟩ | ⟨rfl, rfl⟩
  · exact m32 _
  · exact m32 _
  · exact m32 _
  · exact ⟨ab.1, by show Builtin.bitAnd x y < _; omega⟩
  · exact ⟨ob.1, by show Builtin.bitOr x y < _; omega⟩
  · exact ⟨ob.2.2.1, by show Builtin.bitXor x y < _; omega⟩
  · exact m32 _
  · have h := shr_bnd (n := (y % 32).toNat) hx
    exact ⟨h.1, by show x / 2 ^ (y % 32).toNat < _; omega⟩
  · exact m32 _
  · show W32 (if sgn x < sgn y then 1 else 0)
    split <;> exact ⟨by decide, by decide⟩
  · show W32 (if x < y then 1 else 0)
    split <;> exact ⟨by decide, by decide⟩
  · show W32 (if y = 0 then 4294967295 else x / y)
    split
    · exact ⟨by decide, by decide⟩
    · have h1 : 0 ≤ x / y := Int.ediv_nonneg x0 y0
      have h2 : x / y ≤ x := Int.ediv_le_self y x0
      exact ⟨h1, by omega⟩
  · show W32 (if y = 0 then x else x % y)
    split
    · exact hx
    · have h1 : 0 ≤ x % y := Int.emod_nonneg _ (by omega)
      have h2 : x % y < y := Int.emod_lt_of_pos _ (by omega)
      exact ⟨h1, by omega⟩
end K30


open PySem.W
namespace K30
/-! numbers of nodes; linear forms -/
def intern (ns : List Nd) (x : Nd) : List Nd × Nat := if x ∈ ns then (ns, ns.idxOf x) else (ns ++ [x], ns.length)
/-- what a step on pools leaves: the pool goes on, r is one of its numbers -/
structure Goes (ns : List Nd) (R : List Nd × Nat) : Prop where
  pre : ns <+: R.1
  wf : PWf R.1
  lt : R.2 < R.1.length
  len : R.1.length ≤ ns.length + 2
theorem idx_at {ns : List Nd} {x : Nd} (h : x ∈ ns) : ns[ns.idxOf x]? = some x := by
  rw [List.getElem?_eq_getElem (List.idxOf_lt_length_of_mem h)]
  exact congrArg some (List.getElem_idxOf _)
theorem intern_goes {ns : List Nd} (W : PWf ns) {x : Nd} (o : x.Ok ns ns.length) : Goes ns (intern ns x) ∧ (intern ns x).1[(intern ns x).2]? = some x ∧ (intern ns x).1.length ≤ ns.length + 1 := by
  unfold intern
  by_cases h : x ∈ ns
  · rw [if_pos h]
    exact ⟨⟨List.prefix_refl _, W, List.idxOf_lt_length_of_mem h, by show ns.length ≤ ns.length + 2; omega⟩, idx_at h, by show ns.length ≤ ns.length + 1; omega⟩
  · rw [if_neg h]
    refine ⟨⟨List.prefix_append _ _, W.snoc h o, by show ns.length < (ns ++ [x]).length; rw [List.length_append]; simp, by show (ns ++ [x]).length ≤ _; rw [List.length_append]; simp⟩, ?_, by show (ns ++ [x]).length ≤ _; rw [List.length_append]; simp⟩
    show (ns ++ [x])[ns.length]? = some x
    rw [List.getElem?_append_right (Nat.le_refl _), Nat.sub_self]; rfl
theorem intern_at {ns : List Nd} (W : PWf ns) {x : Nd} {r : Nat} (h : ns[r]? = some x) : intern ns x = (ns, r) := by
  have m : x ∈ ns := List.mem_of_getElem? h
  unfold intern
  rw [if_pos m]
  have := (List.getElem?_inj (List.idxOf_lt_length_of_mem m) W.nd).mp ((idx_at m).trans h.symm)
  rw [this]
theorem ndVal_congr {e : Env3} {vs us : List Int} {ns : List Nd} {j : Nat} {x : Nd} (o : x.Ok ns j) (h : ∀ k, k < j → vs.getD k 0 = us.getD k 0) : ndVal e vs x = ndVal e us x := by
  cases x with
  | word w => rfl
  | leaf k n => rfl
  | op a s t => show opF a _ _ = opF a _ _; rw [h s o.2.1, h t o.2.2]
  | sum c ps =>
    show (c + sumV vs ps) % M32 = (c + sumV us ps) % M32
    have : sumV vs ps = sumV us ps := by
      unfold sumV
      rw [List.map_congr_left (fun p hp => by rw [h p.1 (o.2 p hp).1])]
    rw [this]
theorem val_at (e : Env3) {ns : List Nd} (W : PWf ns) {t : Nat} {x : Nd} (h : ns[t]? = some x) : val e ns t = ndVal e (vals e ns) x := by
  have lt := (List.getElem?_eq_some_iff.mp h).1
  have hp : ns.take t ++ [x] <+: ns := by
    refine ⟨ns.drop (t + 1), ?_⟩
    have := List.drop_eq_getElem_cons lt
    rw [(List.getElem?_eq_some_iff.mp h).2] at this
    rw [List.append_assoc, List.singleton_append, ← this, List.take_append_drop]
  have ht : (ns.take t).length = t := by rw [List.length_take]; omega
  have v1 : val e ns t = val e (ns.take t ++ [x]) t := val_pre e hp (by rw [List.length_append, ht]; simp)
  have v2 : val e (ns.take t ++ [x]) t = ndVal e (vals e (ns.take t)) x := by have := val_last e (ns.take t) x; rwa [ht] at this
  rw [v1, v2]
  exact ndVal_congr (W.ok t x h) fun k hk => (val_pre e (List.take_prefix t ns) (by rw [ht]; exact hk)).symm
def lin (ns : List Nd) (t : Nat) : Int × List (Nat × Int) := match ns[t]? with | some (.word w) => (w, []) | some (.sum c ps) => (c, ps) | _ => (0, [(t, 1)])
def wordOf (ns : List Nd) (t : Nat) : Option Int := match ns[t]? with | some (.word w) => some w | _ => none
theorem lin_pre {ns ms : List Nd} (h : ns <+: ms) {t : Nat} (ht : t < ns.length) : lin ms t = lin ns t := by unfold lin; rw [pre_get h ht]
theorem wordOf_pre {ns ms : List Nd} (h : ns <+: ms) {t : Nat} (ht : t < ns.length) : wordOf ms t = wordOf ns t := by unfold wordOf; rw [pre_get h ht]
theorem lin_atoms {ns : List Nd} (W : PWf ns) {t : Nat} (ht : t < ns.length) : ∀ p ∈ (lin ns t).2, Atom ns p.1 := by
  obtain ⟨x, hx⟩ : ∃ x, ns[t]? = some x := ⟨_, List.getElem?_eq_getElem ht⟩
  have ok := W.ok t x hx
  unfold lin
  rw [hx]
  cases x with
  | word w => intro p hp; exact nomatch hp
  | sum c ps => exact fun p hp => (ok.2 p hp).2
  | leaf k n => intro p hp; obtain rfl := List.mem_singleton.mp hp; exact ⟨_, hx, trivial⟩
  | op a s u => intro p hp; obtain rfl := List.mem_singleton.mp hp; exact ⟨_, hx, trivial⟩
/-- equal but for a multiple of 2 ** 32 -/
def Cg (a b : Int) : Prop := ∃ k, a = b + M32 * k
theorem Cg.rfl' (a : Int) : Cg a a := ⟨0, by omega⟩
theorem Cg.symm {a b : Int} (h : Cg a b) : Cg b a := by obtain ⟨k, e⟩ := h; exact ⟨-k, by rw [e, Int.mul_neg]; omega⟩
theorem Cg.trans {a b c : Int} (h : Cg a b) (g : Cg b c) : Cg a c := by obtain ⟨k, e⟩ := h; obtain ⟨j, f⟩ := g; exact ⟨j + k, by rw [e, f, Int.mul_add]; omega⟩
theorem Cg.add {a b c d : Int} (h : Cg a b) (g : Cg c d) : Cg (a + c) (b + d) := by obtain ⟨k, e⟩ := h; obtain ⟨j, f⟩ := g; exact ⟨k + j, by rw [e, f, Int.mul_add]; omega⟩
theorem Cg.mul {a b : Int} (h : Cg a b) (c : Int) : Cg (a * c) (b * c) := by obtain ⟨k, e⟩ := h; exact ⟨k * c, by rw [e, Int.add_mul, Int.mul_assoc]⟩
theorem Cg.mul' {a b : Int} (h : Cg a b) (c : Int) : Cg (c * a) (c * b) := by rw [Int.mul_comm c a, Int.mul_comm c b]; exact h.mul c
theorem Cg.mod (a : Int) : Cg (a % M32) a := ⟨-(a / M32), by rw [Int.mul_neg, Int.emod_def]; omega⟩
theorem Cg.eq {a b : Int} (h : Cg a b) : a % M32 = b % M32 := by obtain ⟨k, rfl⟩ := h; exact Int.add_mul_emod_self_left _ _ _
theorem Cg.sum {α : Type} {f g : α → Int} : ∀ l : List α, (∀ x ∈ l, Cg (f x) (g x)) → Cg (l.map f).sum (l.map g).sum
  | [], _ => Cg.rfl' _
  | x :: r, h => by
    rw [List.map_cons, List.map_cons, List.sum_cons, List.sum_cons]
    exact (h x (List.mem_cons_self ..)).add (Cg.sum r fun y hy => h y (List.mem_cons_of_mem _ hy))
theorem w32_mod (x : Int) : W32 (x % M32) := ⟨Int.emod_nonneg _ (by decide), Int.emod_lt_of_pos _ (by decide)⟩
theorem mod_w32 {x : Int} (h : W32 x) : x % M32 = x := Int.emod_eq_of_lt h.1 h.2
def coef (L : List (Nat × Int)) (k : Nat) : Int := ((L.filter fun p => p.1 = k).map (·.2)).sum
theorem coef_nil (k : Nat) : coef [] k = 0 := rfl
theorem coef_cons (p : Nat × Int) (L : List (Nat × Int)) (k : Nat) : coef (p :: L) k = (if p.1 = k then p.2 else 0) + coef L k := by
  unfold coef
  rw [List.filter_cons]
  by_cases h : p.1 = k
  · simp [h]
  · simp [h]
theorem coef_app (L M : List (Nat × Int)) (k : Nat) : coef (L ++ M) k = coef L k + coef M k := by
  unfold coef
  rw [List.filter_append, List.map_append, List.sum_append]
theorem coef_zero {L : List (Nat × Int)} {k : Nat} (h : ∀ p ∈ L, p.1 ≠ k) : coef L k = 0 := by
  unfold coef
  rw [List.filter_eq_nil_iff.mpr (fun p hp => by simpa using h p hp)]
  rfl
theorem sum_map_add {α : Type} (f g : α → Int) : ∀ l : List α, (l.map fun x => f x + g x).sum = (l.map f).sum + (l.map g).sum
  | [] => rfl
  | x :: r => by simp only [List.map_cons, List.sum_cons]; rw [sum_map_add f g r]; omega
theorem sum_map_zero {α : Type} (f : α → Int) : ∀ l : List α, (∀ x ∈ l, f x = 0) → (l.map f).sum = 0
  | [], _ => rfl
  | x :: r, h => by simp only [List.map_cons, List.sum_cons]; rw [h x (List.mem_cons_self ..), sum_map_zero f r fun y hy => h y (List.mem_cons_of_mem _ hy)]; rfl
theorem sum_one (a : Nat) (b : Int) (v : Nat → Int) : ∀ n, a < n → ((List.range n).map fun k => (if a = k then b else 0) * v k).sum = b * v a := by
  intro n
  induction n with
  | zero => intro h; omega
  | succ n ih =>
    intro h
    rw [List.range_succ, List.map_append, List.sum_append]
    by_cases e : a = n
    · subst e
      rw [sum_map_zero _ _ (fun k hk => by have := List.mem_range.mp hk; rw [if_neg (by omega), Int.zero_mul])]
      simp
    · rw [ih (by omega)]
      simp [e]
/-- a sum over pairs, number by number -/
theorem sumV_range (vs : List Int) (n : Nat) : ∀ L : List (Nat × Int), (∀ p ∈ L, p.1 < n) → sumV vs L = ((List.range n).map fun k => coef L k * vs.getD k 0).sum
  | [], _ => by
    rw [sum_map_zero _ _ (fun k _ => by rw [coef_nil, Int.zero_mul])]
    rfl
  | p :: L, h => by
    have e : sumV vs (p :: L) = p.2 * vs.getD p.1 0 + sumV vs L := rfl
    rw [e, sumV_range vs n L fun q hq => h q (List.mem_cons_of_mem _ hq), ← sum_one p.1 p.2 (fun k => vs.getD k 0) n (h p (List.mem_cons_self ..)), ← sum_map_add]
    refine congrArg List.sum (List.map_congr_left fun k _ => ?_)
    rw [coef_cons, Int.add_mul]
/-- the pairs of a function of numbers -/
def canon (f : Nat → Int) (n : Nat) : List (Nat × Int) := ((List.range n).filter fun k => f k ≠ 0).map fun k => (k, f k)
theorem canon_mem {f : Nat → Int} {n : Nat} {p : Nat × Int} : p ∈ canon f n ↔ p.1 < n ∧ f p.1 ≠ 0 ∧ p.2 = f p.1 := by
  unfold canon
  rw [List.mem_map]
  constructor
  · rintro ⟨k, hk, rfl⟩
    rw [List.mem_filter, List.mem_range] at hk
    exact ⟨hk.1, by simpa using hk.2, rfl⟩
  · rintro ⟨h1, h2, h3⟩
    exact ⟨p.1, by rw [List.mem_filter, List.mem_range]; exact ⟨h1, by simpa using h2⟩, by rw [← h3]⟩
theorem canon_asc (f : Nat → Int) (n : Nat) : (canon f n).Pairwise fun a b => a.1 < b.1 := by
  unfold canon
  rw [List.pairwise_map]
  exact (List.pairwise_lt_range.sublist List.filter_sublist)
theorem canon_ext {f g : Nat → Int} {n m : Nat} (h : ∀ k, k < n → f k = g k) (z : ∀ k, n ≤ k → k < m → g k = 0) (le : n ≤ m) : canon g m = canon f n := by
  unfold canon
  have e : List.range m = List.range n ++ (List.range (m - n)).map (n + ·) := by
    have := List.range_add (n := n) (m := m - n)
    rwa [show n + (m - n) = m by omega] at this
  rw [e, List.filter_append, List.map_append]
  have z1 : ((List.range (m - n)).map (n + ·)).filter (fun k => g k ≠ 0) = [] := List.filter_eq_nil_iff.mpr fun k hk => by
    obtain ⟨j, hj, rfl⟩ := List.mem_map.mp hk
    have := List.mem_range.mp hj
    simpa using z (n + j) (by omega) (by omega)
  rw [z1, List.map_nil, List.append_nil]
  have : (List.range n).filter (fun k => g k ≠ 0) = (List.range n).filter fun k => f k ≠ 0 := List.filter_congr fun k hk => by rw [h k (List.mem_range.mp hk)]
  rw [this]
  exact List.map_congr_left fun k hk => by rw [h k (List.mem_range.mp (List.mem_filter.mp hk).1)]
theorem sumV_canon (vs : List Int) (f : Nat → Int) (n : Nat) : sumV vs (canon f n) = ((List.range n).map fun k => f k * vs.getD k 0).sum := by
  unfold sumV canon
  rw [List.map_map]
  have : ∀ l : List Nat, ((l.filter fun k => f k ≠ 0).map ((fun p : Nat × Int => p.2 * vs.getD p.1 0) ∘ fun k => (k, f k))).sum = (l.map fun k => f k * vs.getD k 0).sum := by
    intro l
    induction l with
    | nil => rfl
    | cons x r ih =>
      rw [List.filter_cons]
      by_cases h : f x = 0
      · simp [h] at ih ⊢; exact ih
      · simp [h] at ih ⊢; rw [ih]
  exact this _
end K30


open PySem.W
namespace K30
/-! sums: of values, of forms -/
theorem vals_w32 {e : Env3} (eo : e.Ok) {ns : List Nd} (W : PWf ns) : ∀ t, t < ns.length → W32 (val e ns t) := by
  intro t
  induction t using Nat.strongRecOn with
  | _ t ih =>
    intro ht
    obtain ⟨x, hx⟩ : ∃ x, ns[t]? = some x := ⟨_, List.getElem?_eq_getElem ht⟩
    have ok := W.ok t x hx
    rw [val_at e W hx]
    have get : ∀ {l : List Int} {n m : Nat}, l.length = m → (∀ z ∈ l, W32 z) → n < m → W32 (l.getD n 0) := fun {l n m} h1 h2 h3 => by
      rw [List.getD_eq_getElem?_getD, List.getElem?_eq_getElem (by rw [h1]; exact h3)]
      exact h2 _ (List.getElem_mem _)
    cases x with
    | word w => exact ok
    | sum c ps => exact w32_mod _
    | op o s u =>
      obtain ⟨⟨g, hg⟩, hs, hu⟩ := ok
      show W32 (opF o (val e ns s) (val e ns u))
      rw [opF_of hg]
      exact word_of hg (ih s hs (by omega)) (ih u hu (by omega))
    | leaf k n =>
      show W32 (e.leaf k n)
      unfold Env3.leaf
      rcases ok with ⟨rfl | rfl, h⟩ | ⟨rfl | rfl, h⟩
      · rw [if_neg (by decide), if_neg (by decide)]; exact get eo.1.1 eo.1.2 h
      · rw [if_neg (by decide), if_neg (by decide)]; exact get eo.1.1 eo.1.2 h
      · rw [if_pos rfl]; exact get eo.2.1.1 eo.2.1.2 h
      · rw [if_neg (by decide), if_pos rfl]; exact get eo.2.2.1 eo.2.2.2 h
theorem lin_val {e : Env3} (eo : e.Ok) {ns : List Nd} (W : PWf ns) {t : Nat} (ht : t < ns.length) : val e ns t = ((lin ns t).1 + sumV (vals e ns) (lin ns t).2) % M32 := by
  obtain ⟨x, hx⟩ : ∃ x, ns[t]? = some x := ⟨_, List.getElem?_eq_getElem ht⟩
  have w := vals_w32 eo W t ht
  have one : (0 + sumV (vals e ns) [(t, 1)]) % M32 = val e ns t := by
    have : sumV (vals e ns) [(t, 1)] = val e ns t := by
      show 1 * (vals e ns).getD t 0 + 0 = val e ns t
      unfold val
      omega
    rw [this, Int.zero_add]
    exact mod_w32 w
  have v := val_at e W hx
  unfold lin
  rw [hx]
  cases x with
  | word c =>
    show val e ns t = (c + 0) % M32
    rw [v, Int.add_zero]
    exact (mod_w32 (W.ok t _ hx)).symm
  | sum c ps => exact v
  | leaf k n => exact one.symm
  | op o s u => exact one.symm
/-- the parts' own pairs, with their factors -/
def tL (ns : List Nd) (parts : List (Nat × Int)) : List (Nat × Int) := parts.flatMap fun p => (lin ns p.1).2.map fun q => (q.1, q.2 * p.2)
def tB (ns : List Nd) (parts : List (Nat × Int)) : Int := (parts.map fun p => (lin ns p.1).1 * p.2).sum
def tC (ns : List Nd) (parts : List (Nat × Int)) (k : Nat) : Int := coef (tL ns parts) k % M32
def tS (ns : List Nd) (parts : List (Nat × Int)) : List (Nat × Int) := canon (tC ns parts) ns.length
theorem tL_atoms {ns : List Nd} (W : PWf ns) {parts : List (Nat × Int)} (hp : ∀ p ∈ parts, p.1 < ns.length) : ∀ q ∈ tL ns parts, Atom ns q.1 := by
  intro q hq
  obtain ⟨p, h1, h2⟩ := List.mem_flatMap.mp hq
  obtain ⟨r, h3, rfl⟩ := List.mem_map.mp h2
  exact lin_atoms W (hp p h1) r h3
theorem sumV_mul (vs : List Int) (c : Int) : ∀ L : List (Nat × Int), sumV vs (L.map fun q => (q.1, q.2 * c)) = c * sumV vs L
  | [] => by show (0 : Int) = c * 0; omega
  | q :: L => by
    show q.2 * c * vs.getD q.1 0 + sumV vs (L.map fun q => (q.1, q.2 * c)) = c * (q.2 * vs.getD q.1 0 + sumV vs L)
    rw [sumV_mul vs c L, Int.mul_add, Int.mul_comm q.2 c, Int.mul_assoc]
theorem sumV_app (vs : List Int) (L M : List (Nat × Int)) : sumV vs (L ++ M) = sumV vs L + sumV vs M := by unfold sumV; rw [List.map_append, List.sum_append]
theorem sumV_tL (vs : List Int) (ns : List Nd) : ∀ parts : List (Nat × Int), sumV vs (tL ns parts) = (parts.map fun p => p.2 * sumV vs (lin ns p.1).2).sum
  | [] => rfl
  | p :: r => by
    show sumV vs ((lin ns p.1).2.map (fun q => (q.1, q.2 * p.2)) ++ tL ns r) = p.2 * sumV vs (lin ns p.1).2 + _
    rw [sumV_app, sumV_mul, sumV_tL vs ns r]
    rfl
/-- the value of a total -/
theorem total_val {e : Env3} (eo : e.Ok) {ns : List Nd} (W : PWf ns) {base : Int} {parts : List (Nat × Int)} (hp : ∀ p ∈ parts, p.1 < ns.length) :
    ((base + tB ns parts) % M32 + sumV (vals e ns) (tS ns parts)) % M32 = (base + (parts.map fun p => p.2 * val e ns p.1).sum) % M32 := by
  refine Cg.eq ?_
  have h1 : Cg (sumV (vals e ns) (tS ns parts)) (sumV (vals e ns) (tL ns parts)) := by
    unfold tS
    rw [sumV_canon, sumV_range (vals e ns) ns.length (tL ns parts) fun q hq => (tL_atoms W hp q hq).lt]
    exact Cg.sum _ fun k _ => (Cg.mod _).mul _
  refine ((Cg.mod _).add h1).trans ?_
  rw [sumV_tL, Int.add_assoc]
  refine (Cg.rfl' base).add ?_
  unfold tB
  rw [← sum_map_add]
  refine Cg.sum _ fun p h => ?_
  have v := lin_val eo W (hp p h)
  have : Cg ((lin ns p.1).1 * p.2 + p.2 * sumV (vals e ns) (lin ns p.1).2) (p.2 * ((lin ns p.1).1 + sumV (vals e ns) (lin ns p.1).2)) := by
    rw [Int.mul_add, Int.mul_comm (lin ns p.1).1 p.2]
    exact Cg.rfl' _
  refine this.trans (Cg.mul' ?_ _)
  rw [v]
  exact (Cg.mod _).symm
theorem tL_pre {ns ms : List Nd} (h : ns <+: ms) {parts : List (Nat × Int)} (hp : ∀ p ∈ parts, p.1 < ns.length) : tL ms parts = tL ns parts := by
  unfold tL
  induction parts with
  | nil => rfl
  | cons p r ih => rw [List.flatMap_cons, List.flatMap_cons, ih fun q hq => hp q (List.mem_cons_of_mem _ hq), lin_pre h (hp p (List.mem_cons_self ..))]
theorem tB_pre {ns ms : List Nd} (h : ns <+: ms) {parts : List (Nat × Int)} (hp : ∀ p ∈ parts, p.1 < ns.length) : tB ms parts = tB ns parts := by
  unfold tB
  rw [List.map_congr_left fun p q => by rw [lin_pre h (hp p q)]]
theorem tC_zero {ns : List Nd} (W : PWf ns) {parts : List (Nat × Int)} (hp : ∀ p ∈ parts, p.1 < ns.length) {k : Nat} (hk : ns.length ≤ k) : tC ns parts k = 0 := by
  unfold tC
  rw [coef_zero fun q hq e => by have := (tL_atoms W hp q hq).lt; omega]
  rfl
theorem tS_pre {ns ms : List Nd} (h : ns <+: ms) (W : PWf ns) {parts : List (Nat × Int)} (hp : ∀ p ∈ parts, p.1 < ns.length) : tS ms parts = tS ns parts := by
  unfold tS
  have e : ∀ k, tC ms parts k = tC ns parts k := fun k => by unfold tC; rw [tL_pre h hp]
  exact canon_ext (fun k _ => (e k).symm) (fun k h1 _ => by rw [e]; exact tC_zero W hp h1) h.length_le
theorem tS_ok {ns : List Nd} (W : PWf ns) {parts : List (Nat × Int)} (hp : ∀ p ∈ parts, p.1 < ns.length) : ∀ q ∈ tS ns parts, Atom ns q.1 ∧ 1 ≤ q.2 ∧ q.2 < M32 := by
  intro q hq
  obtain ⟨h1, h2, h3⟩ := canon_mem.mp hq
  have w := w32_mod (coef (tL ns parts) q.1)
  refine ⟨?_, ?_, by rw [h3]; exact w.2⟩
  · apply Classical.byContradiction
    intro na
    apply h2
    unfold tC
    rw [coef_zero fun r hr e => na (by have := tL_atoms W hp r hr; rwa [e] at this)]
    rfl
  · have : 0 ≤ tC ns parts q.1 := w.1
    omega
/-- the term of a sum that is in order -/
def sumR (ns : List Nd) (c : Int) (ps : List (Nat × Int)) : List Nd × Nat := if ps = [] then intern ns (.word c) else if c = 0 ∧ ps.length = 1 ∧ (ps.headD (0, 0)).2 = 1 then (ns, (ps.headD (0, 0)).1) else intern ns (.sum c ps)
structure Ordered (ns : List Nd) (c : Int) (ps : List (Nat × Int)) : Prop where
  w : W32 c
  asc : ps.Pairwise fun a b => a.1 < b.1
  ok : ∀ q ∈ ps, Atom ns q.1 ∧ 1 ≤ q.2 ∧ q.2 < M32
  len : ps.length ≤ 12
theorem Ordered.pre {ns ms : List Nd} (h : ns <+: ms) {c : Int} {ps : List (Nat × Int)} (o : Ordered ns c ps) : Ordered ms c ps := ⟨o.w, o.asc, fun q hq => ⟨(o.ok q hq).1.pre h, (o.ok q hq).2⟩, o.len⟩
theorem sumR_goes {ns : List Nd} (W : PWf ns) {c : Int} {ps : List (Nat × Int)} (o : Ordered ns c ps) : Goes ns (sumR ns c ps) ∧ lin (sumR ns c ps).1 (sumR ns c ps).2 = (c, ps) := by
  unfold sumR
  by_cases h : ps = []
  · rw [if_pos h]
    obtain ⟨g, a, _⟩ := intern_goes W (x := .word c) o.w
    refine ⟨g, ?_⟩
    unfold lin
    rw [a, h]
  · rw [if_neg h]
    by_cases h1 : c = 0 ∧ ps.length = 1 ∧ (ps.headD (0, 0)).2 = 1
    · rw [if_pos h1]
      obtain ⟨rfl, hl, hk⟩ := h1
      obtain ⟨⟨t, k⟩, rfl⟩ := List.length_eq_one_iff.mp hl
      obtain rfl : k = 1 := hk
      obtain ⟨x, hx, fx⟩ := (o.ok _ (List.mem_singleton_self _)).1
      refine ⟨⟨List.prefix_refl _, W, (List.getElem?_eq_some_iff.mp hx).1, by show ns.length ≤ _; omega⟩, ?_⟩
      show lin ns t = _
      unfold lin
      rw [show ns[t]? = some x from hx]
      cases x with
      | word w => exact fx.elim
      | sum c ps => exact fx.elim
      | leaf _ _ => rfl
      | op _ _ _ => rfl
    · rw [if_neg h1]
      have ok : (Nd.sum c ps).Ok ns ns.length := ⟨⟨o.w, o.asc, fun q hq => (o.ok q hq).2, h, fun ⟨t, e1, e2⟩ => h1 ⟨e1, by rw [e2]; rfl, by rw [e2]; rfl⟩, o.len⟩, fun q hq => ⟨(o.ok q hq).1.lt, (o.ok q hq).1⟩⟩
      obtain ⟨g, a, _⟩ := intern_goes W ok
      refine ⟨g, ?_⟩
      unfold lin
      rw [a]
def linN (x : Nd) (t : Nat) : Int × List (Nat × Int) := match x with | .word w => (w, []) | .sum c ps => (c, ps) | .leaf _ _ => (0, [(t, 1)]) | .op _ _ _ => (0, [(t, 1)])
theorem lin_of {ns : List Nd} {t : Nat} {x : Nd} (h : ns[t]? = some x) : lin ns t = linN x t := by unfold lin; rw [h]; cases x <;> rfl
/-- a term is known by its form -/
theorem lin_inj {ns : List Nd} (W : PWf ns) {a b : Nat} (ha : a < ns.length) (hb : b < ns.length) (h : lin ns a = lin ns b) : a = b := by
  obtain ⟨x, hx⟩ : ∃ x, ns[a]? = some x := ⟨_, List.getElem?_eq_getElem ha⟩
  obtain ⟨y, hy⟩ : ∃ y, ns[b]? = some y := ⟨_, List.getElem?_eq_getElem hb⟩
  have same : x = y → a = b := fun e => (List.getElem?_inj ha W.nd).mp (by rw [hx, hy, e])
  have ox := W.ok a x hx
  have oy := W.ok b y hy
  have sx : ∀ c ps t, x = .sum c ps → (c, ps) ≠ (0, [(t, 1)]) := fun c ps t e q => by subst e; cases q; exact ox.1.2.2.2.2.1 ⟨t, rfl, rfl⟩
  have sy : ∀ c ps t, y = .sum c ps → (c, ps) ≠ (0, [(t, 1)]) := fun c ps t e q => by subst e; cases q; exact oy.1.2.2.2.2.1 ⟨t, rfl, rfl⟩
  rw [lin_of hx, lin_of hy] at h
  cases x with
  | word w =>
    cases y with
    | word v => cases h; exact same rfl
    | sum c ps => cases h; exact absurd rfl oy.1.2.2.2.1
    | leaf k n => cases h
    | op o s t => cases h
  | sum c ps =>
    cases y with
    | word v => cases h; exact absurd rfl ox.1.2.2.2.1
    | sum d qs => cases h; exact same rfl
    | leaf k n => exact absurd h (sx _ _ _ rfl)
    | op o s t => exact absurd h (sx _ _ _ rfl)
  | leaf k n =>
    cases y with
    | word v => cases h
    | sum d qs => exact absurd h.symm (sy _ _ _ rfl)
    | leaf _ _ => cases h; rfl
    | op _ _ _ => cases h; rfl
  | op o s t =>
    cases y with
    | word v => cases h
    | sum d qs => exact absurd h.symm (sy _ _ _ rfl)
    | leaf _ _ => cases h; rfl
    | op _ _ _ => cases h; rfl
theorem sumR_again {ns ms : List Nd} (W : PWf ns) {c : Int} {ps : List (Nat × Int)} (o : Ordered ns c ps) (Wm : PWf ms) (h : (sumR ns c ps).1 <+: ms) : sumR ms c ps = (ms, (sumR ns c ps).2) := by
  have hn : ns <+: ms := (sumR_goes W o).1.pre.trans h
  have g1 := sumR_goes Wm (o.pre hn)
  have gn := sumR_goes W o
  have e1 : (sumR ms c ps).1 = ms := by
    unfold sumR at gn h ⊢
    by_cases q : ps = []
    · rw [if_pos q] at gn h ⊢
      obtain ⟨_, a, _⟩ := intern_goes W (x := .word c) o.w
      rw [intern_at Wm (pre_get' h a)]
    · rw [if_neg q] at gn h ⊢
      by_cases q1 : c = 0 ∧ ps.length = 1 ∧ (ps.headD (0, 0)).2 = 1
      · rw [if_pos q1]
      · rw [if_neg q1] at gn h ⊢
        have ok : (Nd.sum c ps).Ok ns ns.length := ⟨⟨o.w, o.asc, fun q hq => (o.ok q hq).2, q, fun ⟨t, e1, e2⟩ => q1 ⟨e1, by rw [e2]; rfl, by rw [e2]; rfl⟩, o.len⟩, fun q hq => ⟨(o.ok q hq).1.lt, (o.ok q hq).1⟩⟩
        obtain ⟨_, a, _⟩ := intern_goes W ok
        rw [intern_at Wm (pre_get' h a)]
  have lt : (sumR ns c ps).2 < ms.length := Nat.lt_of_lt_of_le gn.1.lt h.length_le
  have l1 := g1.1.lt
  have l2 := g1.2
  rw [e1] at l1 l2
  have e2 := lin_inj Wm l1 lt (by rw [l2, lin_pre h gn.1.lt, gn.2])
  exact Prod.ext e1 e2
end K30


open PySem.W
namespace K30
/-! operations on terms -/
/-- F goes on from ns, to a term of the value v, and does so again in each later pool -/
structure Gives (ns : List Nd) (F : List Nd → List Nd × Nat) (v : Env3 → Int) : Prop where
  go : Goes ns (F ns)
  val : ∀ e : Env3, e.Ok → val e (F ns).1 (F ns).2 = v e
  again : ∀ ms, PWf ms → (F ns).1 <+: ms → F ms = (ms, (F ns).2)
theorem Gives.congr {ns : List Nd} {F G : List Nd → List Nd × Nat} {v u : Env3 → Int} (g : Gives ns F v) (h : ∀ ms, ns <+: ms → G ms = F ms) (e : ∀ x : Env3, x.Ok → v x = u x) : Gives ns G u := by
  have h0 := h ns (List.prefix_refl _)
  exact ⟨by rw [h0]; exact g.go, fun x o => by rw [h0, g.val x o, e x o], fun ms W p => by rw [h0] at p ⊢; rw [h ms (g.go.pre.trans p), g.again ms W p]⟩
theorem gives_self {ns : List Nd} (W : PWf ns) {a : Nat} (ha : a < ns.length) : Gives ns (fun ms => (ms, a)) fun e => val e ns a :=
  ⟨⟨List.prefix_refl _, W, ha, by show ns.length ≤ ns.length + 2; omega⟩, fun _ _ => rfl, fun _ _ _ => rfl⟩
theorem gives_node {ns : List Nd} (W : PWf ns) {x : Nd} (o : x.Ok ns ns.length) : Gives ns (fun ms => intern ms x) fun e => ndVal e (vals e ns) x := by
  obtain ⟨g, a, _⟩ := intern_goes W o
  refine ⟨g, fun e _ => ?_, fun ms Wm p => intern_at Wm (pre_get' p a)⟩
  show val e (intern ns x).1 (intern ns x).2 = _
  rw [val_at e g.wf a]
  exact ndVal_congr o fun k hk => val_pre e g.pre hk
theorem gives_sum {ns : List Nd} (W : PWf ns) {c : Int} {ps : List (Nat × Int)} (o : Ordered ns c ps) : Gives ns (fun ms => sumR ms c ps) fun e => (c + sumV (vals e ns) ps) % M32 := by
  obtain ⟨g, l⟩ := sumR_goes W o
  refine ⟨g, fun e eo => ?_, fun ms Wm p => sumR_again W o Wm p⟩
  show val e (sumR ns c ps).1 (sumR ns c ps).2 = _
  rw [lin_val eo g.wf g.lt, l]
  have : sumV (vals e (sumR ns c ps).1) ps = sumV (vals e ns) ps := by
    unfold sumV
    rw [List.map_congr_left fun p hp => by rw [show (vals e (sumR ns c ps).1).getD p.1 0 = (vals e ns).getD p.1 0 from val_pre e g.pre (o.ok p hp).1.lt]]
  rw [this]
theorem gives_two {ns : List Nd} (W : PWf ns) {o : Str} {s : Nat} {w : Int} (ho : IsOp o) (hs : s < ns.length) (hw : W32 w) : Gives ns (fun ms => intern (intern ms (.word w)).1 (.op o s (intern ms (.word w)).2)) fun e => opF o (val e ns s) w := by
  obtain ⟨g, a, l⟩ := intern_goes W (x := .word w) hw
  have hs' : s < (intern ns (.word w)).1.length := Nat.lt_of_lt_of_le hs g.pre.length_le
  have ok : (Nd.op o s (intern ns (.word w)).2).Ok (intern ns (.word w)).1 (intern ns (.word w)).1.length := ⟨ho, hs', g.lt⟩
  obtain ⟨g2, a2, l2⟩ := intern_goes g.wf ok
  refine ⟨⟨g.pre.trans g2.pre, g2.wf, g2.lt, by omega⟩, fun e eo => ?_, fun ms Wm p => ?_⟩
  · show val e (intern (intern ns (.word w)).1 (.op o s (intern ns (.word w)).2)).1 (intern (intern ns (.word w)).1 (.op o s (intern ns (.word w)).2)).2 = _
    rw [val_at e g2.wf a2]
    show opF o (val e _ s) (val e _ (intern ns (.word w)).2) = _
    rw [val_pre e g2.pre hs', val_pre e g2.pre g.lt, val_pre e g.pre hs, val_at e g.wf a]
    rfl
  · have e1 : intern ms (.word w) = (ms, (intern ns (.word w)).2) := intern_at Wm (pre_get' (g2.pre.trans p) a)
    show intern (intern ms (.word w)).1 (.op o s (intern ms (.word w)).2) = _
    rw [e1]
    exact intern_at Wm (pre_get' p a2)
/-! the rules -/
abbrev top32 : Int := 4294967295
def rAnd (ns : List Nd) (s t : Nat) : List Nd × Nat := if min s t = max s t ∨ wordOf ns (max s t) = some top32 then (ns, min s t) else if wordOf ns (min s t) = some top32 then (ns, max s t) else if wordOf ns (min s t) = some 0 ∨ wordOf ns (max s t) = some 0 then intern ns (.word 0) else intern ns (.op "and" (min s t) (max s t))
def rOr (ns : List Nd) (s t : Nat) : List Nd × Nat := if min s t = max s t ∨ wordOf ns (max s t) = some 0 then (ns, min s t) else if wordOf ns (min s t) = some 0 then (ns, max s t) else if wordOf ns (min s t) = some top32 ∨ wordOf ns (max s t) = some top32 then intern ns (.word top32) else intern ns (.op "or" (min s t) (max s t))
def rXor (ns : List Nd) (s t : Nat) : List Nd × Nat := if min s t = max s t then intern ns (.word 0) else if wordOf ns (max s t) = some 0 then (ns, min s t) else if wordOf ns (min s t) = some 0 then (ns, max s t) else intern ns (.op "xor" (min s t) (max s t))
def rMulR (ns : List Nd) (s t : Nat) : List Nd × Nat := intern ns (.op "mul" (min s t) (max s t))
def rShift (ns : List Nd) (o : Str) (s t : Nat) : List Nd × Nat := match wordOf ns t with | none => intern ns (.op o s t) | some w => if w % 32 = 0 then (ns, s) else intern (intern ns (.word (w % 32))).1 (.op o s (intern ns (.word (w % 32))).2)
def rLessR (ns : List Nd) (o : Str) (s t : Nat) : List Nd × Nat := if s = t then intern ns (.word 0) else intern ns (.op o s t)
def rDivR (ns : List Nd) (s t : Nat) : List Nd × Nat := if wordOf ns t = some 1 then (ns, s) else intern ns (.op "divu" s t)
def rRemR (ns : List Nd) (s t : Nat) : List Nd × Nat := if wordOf ns t = some 1 then intern ns (.word 0) else intern ns (.op "remu" s t)
def ruleF (ns : List Nd) (o : Str) (s t : Nat) : List Nd × Nat :=
  if o = "and" then rAnd ns s t else if o = "or" then rOr ns s t else if o = "xor" then rXor ns s t else if o = "mul" then rMulR ns s t
  else if o = "shl" ∨ o = "shr" ∨ o = "sar" then rShift ns o s t else if o = "slt" ∨ o = "sltu" then rLessR ns o s t else if o = "divu" then rDivR ns s t else if o = "remu" then rRemR ns s t else intern ns (.op o s t)
def partsOf (o : Str) (s t : Nat) (x y : Option Int) : Option (List (Nat × Int)) :=
  if o = "add" then some [(s, 1), (t, 1)] else if o = "sub" then some [(s, 1), (t, top32)]
  else if o = "mul" then (match y, x with | some w, _ => some [(s, w)] | none, some w => some [(t, w)] | none, none => none)
  else if o = "shl" then (match y with | some w => some [(s, 2 ^ (w % 32).toNat)] | none => none) else none
def normalF (ns : List Nd) (o : Str) (s t : Nat) : List Nd × Nat :=
  match wordOf ns s, wordOf ns t with
  | some x, some y => intern ns (.word (opF o x y))
  | x, y => match partsOf o s t x y with
    | some ps => if (tS ns ps).length ≤ 12 then sumR ns (tB ns ps % M32) (tS ns ps) else ruleF ns o s t
    | none => ruleF ns o s t
theorem and_comm' {x y : Int} (hx : W32 x) (hy : W32 y) : Builtin.bitAnd x y = Builtin.bitAnd y x := by
  obtain ⟨a, rfl⟩ := Int.eq_ofNat_of_zero_le hx.1
  obtain ⟨b, rfl⟩ := Int.eq_ofNat_of_zero_le hy.1
  rw [and_nat, and_nat, Nat.and_comm]
theorem or_comm' {x y : Int} (hx : W32 x) (hy : W32 y) : Builtin.bitOr x y = Builtin.bitOr y x := by
  obtain ⟨a, rfl⟩ := Int.eq_ofNat_of_zero_le hx.1
  obtain ⟨b, rfl⟩ := Int.eq_ofNat_of_zero_le hy.1
  rw [or_nat, or_nat, Nat.or_comm]
theorem and_same {x : Int} (hx : W32 x) : Builtin.bitAnd x x = x := by
  obtain ⟨a, rfl⟩ := Int.eq_ofNat_of_zero_le hx.1
  rw [and_nat, Nat.and_self]
theorem or_same {x : Int} (hx : W32 x) : Builtin.bitOr x x = x := by
  obtain ⟨a, rfl⟩ := Int.eq_ofNat_of_zero_le hx.1
  rw [or_nat, Nat.or_self]
theorem and_top {x : Int} (hx : W32 x) : Builtin.bitAnd x top32 = x := by
  rw [show top32 = (2 : Int) ^ 32 - 1 from rfl, PySem.W.kbt_mask x 32]
  exact Int.emod_eq_of_lt hx.1 hx.2
theorem and_zero {x : Int} (hx : W32 x) : Builtin.bitAnd x 0 = 0 := by
  obtain ⟨a, rfl⟩ := Int.eq_ofNat_of_zero_le hx.1
  rw [show (0 : Int) = ((0 : Nat) : Int) from rfl, and_nat, Nat.and_zero]
theorem or_zero {x : Int} (hx : W32 x) : Builtin.bitOr x 0 = x := by
  obtain ⟨a, rfl⟩ := Int.eq_ofNat_of_zero_le hx.1
  rw [show (0 : Int) = ((0 : Nat) : Int) from rfl, or_nat, Nat.or_zero]
theorem or_top {x : Int} (hx : W32 x) : Builtin.bitOr x top32 = top32 := by
  have h2 := hx.2
  obtain ⟨a, rfl⟩ := Int.eq_ofNat_of_zero_le hx.1
  rw [show top32 = ((4294967295 : Nat) : Int) from rfl, or_nat]
  have l : a ||| 4294967295 < 2 ^ 32 := Nat.or_lt_two_pow (by have : ((a : Nat) : Int) < 4294967296 := h2; omega) (by decide)
  have g : 4294967295 ≤ a ||| 4294967295 := Nat.right_le_or
  have : a ||| 4294967295 = 4294967295 := by omega
  rw [this]
theorem xor_eq (x y : Int) : Builtin.bitXor x y = Builtin.bitOr x y - Builtin.bitAnd x y := rfl
theorem w0 : W32 0 := ⟨by decide, by decide⟩
theorem wTop : W32 top32 := ⟨by decide, by decide⟩
theorem wordOf_val {e : Env3} {ns : List Nd} (W : PWf ns) {t : Nat} {w : Int} (h : wordOf ns t = some w) : t < ns.length ∧ val e ns t = w ∧ W32 w := by
  unfold wordOf at h
  cases hx : ns[t]? with
  | none => rw [hx] at h; cases h
  | some x =>
    rw [hx] at h
    cases x with
    | word v => cases h; exact ⟨(List.getElem?_eq_some_iff.mp hx).1, val_at e W hx, W.ok _ _ hx⟩
    | leaf _ _ => cases h
    | op _ _ _ => cases h
    | sum _ _ => cases h
end K30


open PySem.W
namespace K30
/-! each operation gives its value -/
section
variable {ns : List Nd} {s t : Nat} (W : PWf ns) (hs : s < ns.length) (ht : t < ns.length)
include W hs ht
theorem mm : min s t < ns.length ∧ max s t < ns.length := by omega
theorem mm_val (e : Env3) (f : Int → Int → Int) (hc : f (val e ns s) (val e ns t) = f (val e ns t) (val e ns s)) : f (val e ns (min s t)) (val e ns (max s t)) = f (val e ns s) (val e ns t) := by
  rcases Nat.le_total s t with h | h
  · rw [Nat.min_eq_left h, Nat.max_eq_right h]
  · rw [Nat.min_eq_right h, Nat.max_eq_left h, hc]
theorem op_node {o : Str} (ho : IsOp o) : Gives ns (fun ms => intern ms (.op o s t)) fun e => opF o (val e ns s) (val e ns t) := gives_node W ⟨ho, hs, ht⟩
theorem op_node_m {o : Str} (ho : IsOp o) : Gives ns (fun ms => intern ms (.op o (min s t) (max s t))) fun e => opF o (val e ns (min s t)) (val e ns (max s t)) := gives_node W ⟨ho, by omega, by omega⟩
theorem word_node {w : Int} (hw : W32 w) : Gives ns (fun ms => intern ms (.word w)) fun _ => w := gives_node W (x := .word w) hw
theorem gAnd : Gives ns (fun ms => rAnd ms s t) fun e => opF "and" (val e ns s) (val e ns t) := by
  have ho : opF "and" = dAnd := opF_of (by simp [tab13])
  have cm : ∀ e : Env3, e.Ok → opF "and" (val e ns (min s t)) (val e ns (max s t)) = opF "and" (val e ns s) (val e ns t) := fun e eo => by
    rw [ho]
    exact mm_val W hs ht e dAnd (and_comm' (vals_w32 eo W s hs) (vals_w32 eo W t ht))
  have hmm := mm W hs ht
  have pr : ∀ {ms : List Nd}, ns <+: ms → wordOf ms (min s t) = wordOf ns (min s t) ∧ wordOf ms (max s t) = wordOf ns (max s t) := fun h => ⟨wordOf_pre h hmm.1, wordOf_pre h hmm.2⟩
  by_cases h1 : min s t = max s t ∨ wordOf ns (max s t) = some top32
  · refine (gives_self W hmm.1).congr (fun ms h => by unfold rAnd; rw [(pr h).1, (pr h).2, if_pos h1]) fun e eo => ?_
    rw [← cm e eo, ho]
    have wa := vals_w32 eo W _ hmm.1
    rcases h1 with h | h
    · rw [← h]; exact (and_same wa).symm
    · rw [(wordOf_val (e := e) W h).2.1]; exact (and_top wa).symm
  by_cases h2 : wordOf ns (min s t) = some top32
  · refine (gives_self W hmm.2).congr (fun ms h => by unfold rAnd; rw [(pr h).1, (pr h).2, if_neg h1, if_pos h2]) fun e eo => ?_
    rw [← cm e eo, ho, (wordOf_val (e := e) W h2).2.1]
    have wb := vals_w32 eo W _ hmm.2
    show _ = Builtin.bitAnd _ _
    rw [and_comm' wTop wb]; exact (and_top wb).symm
  by_cases h3 : wordOf ns (min s t) = some 0 ∨ wordOf ns (max s t) = some 0
  · refine (word_node W hs ht w0).congr (fun ms h => by unfold rAnd; rw [(pr h).1, (pr h).2, if_neg h1, if_neg h2, if_pos h3]) fun e eo => ?_
    rw [← cm e eo, ho]
    rcases h3 with h | h
    · rw [(wordOf_val (e := e) W h).2.1]
      have wb := vals_w32 eo W _ hmm.2
      show _ = Builtin.bitAnd _ _
      rw [and_comm' w0 wb]; exact (and_zero wb).symm
    · rw [(wordOf_val (e := e) W h).2.1]; exact (and_zero (vals_w32 eo W _ hmm.1)).symm
  exact (op_node_m W hs ht ⟨dAnd, by simp [tab13]⟩).congr (fun ms h => by unfold rAnd; rw [(pr h).1, (pr h).2, if_neg h1, if_neg h2, if_neg h3]) cm
theorem gOr : Gives ns (fun ms => rOr ms s t) fun e => opF "or" (val e ns s) (val e ns t) := by
  have ho : opF "or" = dOr := opF_of (by simp [tab13])
  have cm : ∀ e : Env3, e.Ok → opF "or" (val e ns (min s t)) (val e ns (max s t)) = opF "or" (val e ns s) (val e ns t) := fun e eo => by
    rw [ho]
    exact mm_val W hs ht e dOr (or_comm' (vals_w32 eo W s hs) (vals_w32 eo W t ht))
  have hmm := mm W hs ht
  have pr : ∀ {ms : List Nd}, ns <+: ms → wordOf ms (min s t) = wordOf ns (min s t) ∧ wordOf ms (max s t) = wordOf ns (max s t) := fun h => ⟨wordOf_pre h hmm.1, wordOf_pre h hmm.2⟩
  by_cases h1 : min s t = max s t ∨ wordOf ns (max s t) = some 0
  · refine (gives_self W hmm.1).congr (fun ms h => by unfold rOr; rw [(pr h).1, (pr h).2, if_pos h1]) fun e eo => ?_
    rw [← cm e eo, ho]
    have wa := vals_w32 eo W _ hmm.1
    rcases h1 with h | h
    · rw [← h]; exact (or_same wa).symm
    · rw [(wordOf_val (e := e) W h).2.1]; exact (or_zero wa).symm
  by_cases h2 : wordOf ns (min s t) = some 0
  · refine (gives_self W hmm.2).congr (fun ms h => by unfold rOr; rw [(pr h).1, (pr h).2, if_neg h1, if_pos h2]) fun e eo => ?_
    rw [← cm e eo, ho, (wordOf_val (e := e) W h2).2.1]
    have wb := vals_w32 eo W _ hmm.2
    show _ = Builtin.bitOr _ _
    rw [or_comm' w0 wb]; exact (or_zero wb).symm
  by_cases h3 : wordOf ns (min s t) = some top32 ∨ wordOf ns (max s t) = some top32
  · refine (word_node W hs ht wTop).congr (fun ms h => by unfold rOr; rw [(pr h).1, (pr h).2, if_neg h1, if_neg h2, if_pos h3]) fun e eo => ?_
    rw [← cm e eo, ho]
    rcases h3 with h | h
    · rw [(wordOf_val (e := e) W h).2.1]
      have wb := vals_w32 eo W _ hmm.2
      show _ = Builtin.bitOr _ _
      rw [or_comm' wTop wb]; exact (or_top wb).symm
    · rw [(wordOf_val (e := e) W h).2.1]; exact (or_top (vals_w32 eo W _ hmm.1)).symm
  exact (op_node_m W hs ht ⟨dOr, by simp [tab13]⟩).congr (fun ms h => by unfold rOr; rw [(pr h).1, (pr h).2, if_neg h1, if_neg h2, if_neg h3]) cm
theorem gXor : Gives ns (fun ms => rXor ms s t) fun e => opF "xor" (val e ns s) (val e ns t) := by
  have ho : opF "xor" = dXor := opF_of (by simp [tab13])
  have cx : ∀ {x y : Int}, W32 x → W32 y → dXor x y = dXor y x := fun {x y} hx hy => by unfold dXor; rw [xor_eq, xor_eq, or_comm' hx hy, and_comm' hx hy]
  have x0 : ∀ {x : Int}, W32 x → dXor x 0 = x := fun {x} hx => by unfold dXor; rw [xor_eq, or_zero hx, and_zero hx, Int.sub_zero]
  have cm : ∀ e : Env3, e.Ok → opF "xor" (val e ns (min s t)) (val e ns (max s t)) = opF "xor" (val e ns s) (val e ns t) := fun e eo => by
    rw [ho]
    exact mm_val W hs ht e dXor (cx (vals_w32 eo W s hs) (vals_w32 eo W t ht))
  have hmm := mm W hs ht
  have pr : ∀ {ms : List Nd}, ns <+: ms → wordOf ms (min s t) = wordOf ns (min s t) ∧ wordOf ms (max s t) = wordOf ns (max s t) := fun h => ⟨wordOf_pre h hmm.1, wordOf_pre h hmm.2⟩
  by_cases h1 : min s t = max s t
  · refine (word_node W hs ht w0).congr (fun ms h => by unfold rXor; rw [(pr h).1, (pr h).2, if_pos h1]) fun e eo => ?_
    rw [← cm e eo, ho, ← h1]
    have wa := vals_w32 eo W _ hmm.1
    show _ = Builtin.bitXor _ _
    rw [xor_eq, or_same wa, and_same wa, Int.sub_self]
  by_cases h2 : wordOf ns (max s t) = some 0
  · refine (gives_self W hmm.1).congr (fun ms h => by unfold rXor; rw [(pr h).1, (pr h).2, if_neg h1, if_pos h2]) fun e eo => ?_
    rw [← cm e eo, ho, (wordOf_val (e := e) W h2).2.1, x0 (vals_w32 eo W _ hmm.1)]
  by_cases h3 : wordOf ns (min s t) = some 0
  · refine (gives_self W hmm.2).congr (fun ms h => by unfold rXor; rw [(pr h).1, (pr h).2, if_neg h1, if_neg h2, if_pos h3]) fun e eo => ?_
    rw [← cm e eo, ho, (wordOf_val (e := e) W h3).2.1, cx w0 (vals_w32 eo W _ hmm.2), x0 (vals_w32 eo W _ hmm.2)]
  exact (op_node_m W hs ht ⟨dXor, by simp [tab13]⟩).congr (fun ms h => by unfold rXor; rw [(pr h).1, (pr h).2, if_neg h1, if_neg h2, if_neg h3]) cm
theorem gMul : Gives ns (fun ms => rMulR ms s t) fun e => opF "mul" (val e ns s) (val e ns t) := by
  have ho : opF "mul" = dMul := opF_of (by simp [tab13])
  refine (op_node_m W hs ht ⟨dMul, by simp [tab13]⟩).congr (fun ms h => rfl) fun e eo => ?_
  rw [ho]
  exact mm_val W hs ht e dMul (by unfold dMul; rw [Int.mul_comm])
theorem gShift {o : Str} (h : o = "shl" ∨ o = "shr" ∨ o = "sar") : Gives ns (fun ms => rShift ms o s t) fun e => opF o (val e ns s) (val e ns t) := by
  have io : IsOp o := by
    rcases h with rfl | rfl | rfl
    · exact ⟨dShl, by simp [tab13]⟩
    · exact ⟨dShr, by simp [tab13]⟩
    · exact ⟨dSar, by simp [tab13]⟩
  have eff : ∀ x w : Int, opF o x (w % 32) = opF o x w := fun x w => by
    have z : w % 32 % 32 = w % 32 := Int.emod_emod_of_dvd w (Int.dvd_refl 32)
    rcases h with rfl | rfl | rfl
    · rw [opF_of (g := dShl) (by simp [tab13])]; unfold dShl; rw [z]
    · rw [opF_of (g := dShr) (by simp [tab13])]; unfold dShr; rw [z]
    · rw [opF_of (g := dSar) (by simp [tab13])]; unfold dSar; rw [z]
  have zer : ∀ {x : Int}, W32 x → opF o x 0 = x := fun {x} hx => by
    rcases h with rfl | rfl | rfl
    · rw [opF_of (g := dShl) (by simp [tab13])]
      show x * 2 ^ ((0 : Int) % 32).toNat % 4294967296 = x
      rw [show ((0 : Int) % 32).toNat = 0 from rfl, Int.pow_zero, Int.mul_one]; exact mod_w32 hx
    · rw [opF_of (g := dShr) (by simp [tab13])]
      show x / 2 ^ ((0 : Int) % 32).toNat = x
      rw [show ((0 : Int) % 32).toNat = 0 from rfl, Int.pow_zero, Int.ediv_one]
    · rw [opF_of (g := dSar) (by simp [tab13])]
      show sgn x / 2 ^ ((0 : Int) % 32).toNat % 4294967296 = x
      rw [show ((0 : Int) % 32).toNat = 0 from rfl, Int.pow_zero, Int.ediv_one]
      obtain ⟨a, b⟩ := hx
      unfold sgn
      split <;> omega
  cases hw : wordOf ns t with
  | none => exact (op_node W hs ht io).congr (fun ms p => by unfold rShift; rw [wordOf_pre p ht, hw]) fun _ _ => rfl
  | some w =>
    obtain ⟨_, _, ww⟩ := wordOf_val (e := ⟨[], [], []⟩) W hw
    by_cases z : w % 32 = 0
    · refine (gives_self W hs).congr (fun ms p => by unfold rShift; rw [wordOf_pre p ht, hw]; exact if_pos z) fun e eo => ?_
      rw [(wordOf_val (e := e) W hw).2.1, ← eff, z, zer (vals_w32 eo W s hs)]
    · have wm : W32 (w % 32) := ⟨by omega, by have := Int.emod_lt_of_pos w (show (0 : Int) < 32 by decide); omega⟩
      refine (gives_two W io hs wm).congr (fun ms p => by unfold rShift; rw [wordOf_pre p ht, hw]; exact if_neg z) fun e eo => ?_
      rw [(wordOf_val (e := e) W hw).2.1, eff]
theorem gLess {o : Str} (h : o = "slt" ∨ o = "sltu") : Gives ns (fun ms => rLessR ms o s t) fun e => opF o (val e ns s) (val e ns t) := by
  have io : IsOp o := by
    rcases h with rfl | rfl
    · exact ⟨dSlt, by simp [tab13]⟩
    · exact ⟨dSltu, by simp [tab13]⟩
  by_cases e1 : s = t
  · refine (word_node W hs ht w0).congr (fun ms p => by unfold rLessR; rw [if_pos e1]) fun e eo => ?_
    subst e1
    rcases h with rfl | rfl
    · rw [opF_of (g := dSlt) (by simp [tab13])]; unfold dSlt; rw [if_neg (Int.lt_irrefl _)]
    · rw [opF_of (g := dSltu) (by simp [tab13])]; unfold dSltu; rw [if_neg (Int.lt_irrefl _)]
  · exact (op_node W hs ht io).congr (fun ms p => by unfold rLessR; rw [if_neg e1]) fun _ _ => rfl
theorem gDiv : Gives ns (fun ms => rDivR ms s t) fun e => opF "divu" (val e ns s) (val e ns t) := by
  by_cases h : wordOf ns t = some 1
  · refine (gives_self W hs).congr (fun ms p => by unfold rDivR; rw [wordOf_pre p ht, if_pos h]) fun e eo => ?_
    rw [(wordOf_val (e := e) W h).2.1, opF_of (g := dDivu) (by simp [tab13])]
    show _ = if (1 : Int) = 0 then _ else _ / 1
    rw [if_neg (by decide), Int.ediv_one]
  · exact (op_node W hs ht ⟨dDivu, by simp [tab13]⟩).congr (fun ms p => by unfold rDivR; rw [wordOf_pre p ht, if_neg h]) fun _ _ => rfl
theorem gRem : Gives ns (fun ms => rRemR ms s t) fun e => opF "remu" (val e ns s) (val e ns t) := by
  by_cases h : wordOf ns t = some 1
  · refine (word_node W hs ht w0).congr (fun ms p => by unfold rRemR; rw [wordOf_pre p ht, if_pos h]) fun e eo => ?_
    rw [(wordOf_val (e := e) W h).2.1, opF_of (g := dRemu) (by simp [tab13])]
    show _ = if (1 : Int) = 0 then _ else _ % 1
    rw [if_neg (by decide), Int.emod_one]
  · exact (op_node W hs ht ⟨dRemu, by simp [tab13]⟩).congr (fun ms p => by unfold rRemR; rw [wordOf_pre p ht, if_neg h]) fun _ _ => rfl
end
end K30


open PySem.W
namespace K30
theorem gRule {ns : List Nd} {o : Str} {s t : Nat} (W : PWf ns) (ho : IsOp o) (hs : s < ns.length) (ht : t < ns.length) : Gives ns (fun ms => ruleF ms o s t) fun e => opF o (val e ns s) (val e ns t) := by
  have r : ∀ {F : List Nd → List Nd × Nat}, Gives ns F (fun e => opF o (val e ns s) (val e ns t)) → (∀ ms, ruleF ms o s t = F ms) → Gives ns (fun ms => ruleF ms o s t) fun e => opF o (val e ns s) (val e ns t) := fun g h => g.congr (fun ms _ => h ms) fun _ _ => rfl
  by_cases h1 : o = "and"
  · subst h1; exact r (gAnd W hs ht) fun ms => rfl
  by_cases h2 : o = "or"
  · subst h2; exact r (gOr W hs ht) fun ms => rfl
  by_cases h3 : o = "xor"
  · subst h3; exact r (gXor W hs ht) fun ms => rfl
  by_cases h4 : o = "mul"
  · subst h4; exact r (gMul W hs ht) fun ms => rfl
  by_cases h5 : o = "shl" ∨ o = "shr" ∨ o = "sar"
  · exact r (gShift W hs ht h5) fun ms => by unfold ruleF; rw [if_neg h1, if_neg h2, if_neg h3, if_neg h4, if_pos h5]
  by_cases h6 : o = "slt" ∨ o = "sltu"
  · exact r (gLess W hs ht h6) fun ms => by unfold ruleF; rw [if_neg h1, if_neg h2, if_neg h3, if_neg h4, if_neg h5, if_pos h6]
  by_cases h7 : o = "divu"
  · subst h7; exact r (gDiv W hs ht) fun ms => rfl
  by_cases h8 : o = "remu"
  · subst h8; exact r (gRem W hs ht) fun ms => rfl
  exact r (op_node W hs ht ho) fun ms => by unfold ruleF; rw [if_neg h1, if_neg h2, if_neg h3, if_neg h4, if_neg h5, if_neg h6, if_neg h7, if_neg h8]
theorem parts_val {ns : List Nd} {o : Str} {s t : Nat} (W : PWf ns) (hs : s < ns.length) (ht : t < ns.length) {ps : List (Nat × Int)} (h : partsOf o s t (wordOf ns s) (wordOf ns t) = some ps) :
    (∀ p ∈ ps, p.1 < ns.length) ∧ ∀ e : Env3, e.Ok → (0 + (ps.map fun p => p.2 * val e ns p.1).sum) % M32 = opF o (val e ns s) (val e ns t) := by
  unfold partsOf at h
  by_cases h1 : o = "add"
  · subst h1
    rw [if_pos rfl] at h
    cases h
    refine ⟨fun p hp => by simp only [List.mem_cons, List.not_mem_nil, or_false] at hp; rcases hp with rfl | rfl <;> assumption, fun e eo => ?_⟩
    rw [opF_of (g := dAdd) (by simp [tab13])]
    show (0 + (1 * val e ns s + (1 * val e ns t + 0))) % M32 = (val e ns s + val e ns t) % 4294967296
    rw [show (0 + (1 * val e ns s + (1 * val e ns t + 0)) : Int) = val e ns s + val e ns t by omega]
  rw [if_neg h1] at h
  by_cases h2 : o = "sub"
  · subst h2
    rw [if_pos rfl] at h
    cases h
    refine ⟨fun p hp => by simp only [List.mem_cons, List.not_mem_nil, or_false] at hp; rcases hp with rfl | rfl <;> assumption, fun e eo => ?_⟩
    rw [opF_of (g := dSub) (by simp [tab13])]
    show (0 + (1 * val e ns s + (4294967295 * val e ns t + 0))) % M32 = (val e ns s - val e ns t) % 4294967296
    exact Cg.eq ⟨val e ns t, by show _ = _ + 4294967296 * _; omega⟩
  rw [if_neg h2] at h
  by_cases h3 : o = "mul"
  · subst h3
    rw [if_pos rfl] at h
    cases hy : wordOf ns t with
    | some w =>
      rw [hy] at h
      cases h
      refine ⟨fun p hp => by obtain rfl := List.mem_singleton.mp hp; exact hs, fun e eo => ?_⟩
      rw [opF_of (g := dMul) (by simp [tab13]), (wordOf_val (e := e) W hy).2.1]
      show (0 + (w * val e ns s + 0)) % M32 = (val e ns s * w) % 4294967296
      rw [Int.zero_add, Int.add_zero, Int.mul_comm]
    | none =>
      rw [hy] at h
      cases hx : wordOf ns s with
      | none => rw [hx] at h; cases h
      | some w =>
        rw [hx] at h
        cases h
        refine ⟨fun p hp => by obtain rfl := List.mem_singleton.mp hp; exact ht, fun e eo => ?_⟩
        rw [opF_of (g := dMul) (by simp [tab13]), (wordOf_val (e := e) W hx).2.1]
        show (0 + (w * val e ns t + 0)) % M32 = (w * val e ns t) % 4294967296
        rw [Int.zero_add, Int.add_zero]
  rw [if_neg h3] at h
  by_cases h4 : o = "shl"
  · subst h4
    rw [if_pos rfl] at h
    cases hy : wordOf ns t with
    | none => rw [hy] at h; cases h
    | some w =>
      rw [hy] at h
      cases h
      refine ⟨fun p hp => by obtain rfl := List.mem_singleton.mp hp; exact hs, fun e eo => ?_⟩
      rw [opF_of (g := dShl) (by simp [tab13]), (wordOf_val (e := e) W hy).2.1]
      show (0 + (2 ^ (w % 32).toNat * val e ns s + 0)) % M32 = (val e ns s * 2 ^ (w % 32).toNat) % 4294967296
      rw [Int.zero_add, Int.add_zero, Int.mul_comm]
  rw [if_neg h4] at h
  cases h
theorem tS_ordered {ns : List Nd} (W : PWf ns) {base : Int} {ps : List (Nat × Int)} (hp : ∀ p ∈ ps, p.1 < ns.length) (l : (tS ns ps).length ≤ 12) : Ordered ns (base % M32) (tS ns ps) := ⟨w32_mod _, canon_asc _ _, tS_ok W hp, l⟩
theorem gNormal {ns : List Nd} {o : Str} {s t : Nat} (W : PWf ns) (ho : IsOp o) (hs : s < ns.length) (ht : t < ns.length) : Gives ns (fun ms => normalF ms o s t) fun e => opF o (val e ns s) (val e ns t) := by
  have st : ∀ ms, ns <+: ms → normalF ms o s t = match wordOf ns s, wordOf ns t with
      | some x, some y => intern ms (.word (opF o x y))
      | x, y => match partsOf o s t x y with
        | some ps => if (tS ms ps).length ≤ 12 then sumR ms (tB ms ps % M32) (tS ms ps) else ruleF ms o s t
        | none => ruleF ms o s t := fun ms p => by unfold normalF; rw [wordOf_pre p hs, wordOf_pre p ht] <;> (cases wordOf ns s <;> cases wordOf ns t <;> rfl)
  have rest : Gives ns (fun ms => match partsOf o s t (wordOf ns s) (wordOf ns t) with
        | some ps => if (tS ms ps).length ≤ 12 then sumR ms (tB ms ps % M32) (tS ms ps) else ruleF ms o s t
        | none => ruleF ms o s t) fun e => opF o (val e ns s) (val e ns t) := by
    cases hp : partsOf o s t (wordOf ns s) (wordOf ns t) with
    | none => exact gRule W ho hs ht
    | some ps =>
      obtain ⟨k, v⟩ := parts_val W hs ht hp
      by_cases l : (tS ns ps).length ≤ 12
      · refine (gives_sum W (tS_ordered (base := tB ns ps) W k l)).congr (fun ms p => ?_) fun e eo => ?_
        · show (if (tS ms ps).length ≤ 12 then _ else _) = _
          rw [tS_pre p W k, tB_pre p k, if_pos l]
        · have := total_val eo W (base := 0) k
          rw [Int.zero_add] at this
          rw [this]
          exact v e eo
      · exact (gRule W ho hs ht).congr (fun ms p => by show (if (tS ms ps).length ≤ 12 then _ else _) = _; rw [tS_pre p W k, if_neg l]) fun _ _ => rfl
  cases hx : wordOf ns s with
  | none =>
    rw [hx] at rest st
    exact rest.congr (fun ms p => by rw [st ms p]) fun _ _ => rfl
  | some x =>
    cases hy : wordOf ns t with
    | none =>
      rw [hx, hy] at rest st
      exact rest.congr (fun ms p => by rw [st ms p]) fun _ _ => rfl
    | some y =>
      rw [hx, hy] at st
      have wx := (wordOf_val (e := ⟨[], [], []⟩) W hx).2.2
      have wy := (wordOf_val (e := ⟨[], [], []⟩) W hy).2.2
      obtain ⟨g, hg⟩ := id ho
      have wo : W32 (opF o x y) := by rw [opF_of hg]; exact word_of hg wx wy
      refine (word_node W hs ht wo).congr (fun ms p => by rw [st ms p]) fun e eo => ?_
      rw [(wordOf_val (e := e) W hx).2.1, (wordOf_val (e := e) W hy).2.1]
end K30


open PySem.W
namespace K30
local macro_rules | `(tactic| walk_at "w1") => `(tactic| first
  | (with_reducible refine w_dget ?_)
  | (with_reducible refine w_dput ?_)
  | (with_reducible refine w_fld ?_)
  | (with_reducible refine w_fldS ?_)
  | (with_reducible refine w_md ?_)
  | (with_reducible refine w_getN ?_)
  | ((with_reducible refine' w_kFld ?hT ?hh ?hm ?hl ?_); (case hT => assumption); (case hh => assumption); (case hm => decide); (case hl => exact rfl)))
theorem sc_Pool_init : FnScope ["self"] ["self"] (defScope s_Pool_init) := ⟨rfl, rfl, rfl, by decide +kernel, rfl, by decide +kernel, by decide +kernel⟩
theorem sc_Pool_term : FnScope ["self", "node", "number"] ["self", "node"] (defScope s_Pool_term) := ⟨rfl, rfl, rfl, by decide +kernel, rfl, by decide +kernel, by decide +kernel⟩
theorem sc_Pool_word : FnScope ["self", "w"] ["self", "w"] (defScope s_Pool_word) := ⟨rfl, rfl, rfl, by decide +kernel, rfl, by decide +kernel, by decide +kernel⟩
theorem sc_Pool_node : FnScope ["self", "t"] ["self", "t"] (defScope s_Pool_node) := ⟨rfl, rfl, rfl, by decide +kernel, rfl, by decide +kernel, by decide +kernel⟩
theorem sc_Pool_word_of : FnScope ["self", "t", "node"] ["self", "t"] (defScope s_Pool_word_of) := ⟨rfl, rfl, rfl, by decide +kernel, rfl, by decide +kernel, by decide +kernel⟩
/-! the pool in the heap -/
abbrev poN : List Str := ["nodes", "numbers"]
def kWord (w : Int) : NestedKey := .tup [.text "word", .num w]
def Nd.key : Nd → NestedKey
  | .word w => kWord w
  | .leaf k n => .tup [.text k, .num (n : Int)]
  | .op o s t => .tup [.text o, .num (s : Int), .num (t : Int)]
  | .sum c ps => .tup [.text "sum", .num c, .tup (ps.map fun p => .tup [.num (p.1 : Int), .num p.2])]
def PrAt (H : Hp) (b : Addr) (ps : List (Nat × Int)) : Prop := ∃ rs : List Addr, H b = some (.tup (rs.map V.ref)) ∧ Paired (fun (r : Addr) (p : Nat × Int) => H r = some (.tup [.int (p.1 : Int), .int p.2])) rs ps
def NdAt (H : Hp) (a : Addr) : Nd → Prop
  | .word w => H a = some (.tup [.str "word", .int w])
  | .leaf k n => H a = some (.tup [.str k, .int (n : Int)])
  | .op o s t => H a = some (.tup [.str o, .int (s : Int), .int (t : Int)])
  | .sum c ps => ∃ b, H a = some (.tup [.str "sum", .int c, .ref b]) ∧ PrAt H b ps
theorem PrAt.tps {H H' : Hp} (t : Tps H H') {b : Addr} {ps : List (Nat × Int)} (h : PrAt H b ps) : PrAt H' b ps := by
  obtain ⟨rs, h1, h2⟩ := h
  exact ⟨rs, t _ _ h1, L2.Paired.mapP h2 fun r p e => t _ _ e⟩
theorem NdAt.tps {H H' : Hp} (t : Tps H H') {a : Addr} {x : Nd} (h : NdAt H a x) : NdAt H' a x := by
  cases x with
  | word w => exact t _ _ h
  | leaf k n => exact t _ _ h
  | op o s u => exact t _ _ h
  | sum c ps => obtain ⟨b, h1, h2⟩ := h; exact ⟨b, t _ _ h1, h2.tps t⟩
theorem PrAt.keys {H : Hp} {rs : List Addr} {ps : List (Nat × Int)} (h : Paired (fun (r : Addr) (p : Nat × Int) => H r = some (.tup [.int (p.1 : Int), .int p.2])) rs ps) : NKs H (ps.map fun p => .tup [.num (p.1 : Int), .num p.2]) (rs.map V.ref) := by
  induction h with
  | nil => rw [List.map_nil, NKs]; rfl
  | @cons r p _ _ e _ ih =>
    rw [List.map_cons, List.map_cons, NKs]
    refine ⟨_, _, rfl, ?_, ih⟩
    rw [NKv]
    refine ⟨r, _, rfl, e, ?_⟩
    rw [NKs]
    refine ⟨_, _, rfl, by rw [NKv], ?_⟩
    rw [NKs]
    exact ⟨_, _, rfl, by rw [NKv], by rw [NKs]⟩
theorem NdAt.key {H : Hp} {a : Addr} {x : Nd} (h : NdAt H a x) : NKv H x.key (.ref a) := by
  have two : ∀ {k : Str} {n : Int}, H a = some (.tup [.str k, .int n]) → NKv H (.tup [.text k, .num n]) (.ref a) := fun {k n} e => by
    rw [NKv]
    refine ⟨a, _, rfl, e, ?_⟩
    rw [NKs]
    refine ⟨_, _, rfl, by rw [NKv], ?_⟩
    rw [NKs]
    exact ⟨_, _, rfl, by rw [NKv], by rw [NKs]⟩
  cases x with
  | word w => exact two h
  | leaf k n => exact two h
  | op o s t =>
    show NKv H (.tup [_, _, _]) _
    rw [NKv]
    refine ⟨a, _, rfl, h, ?_⟩
    rw [NKs]
    refine ⟨_, _, rfl, by rw [NKv], ?_⟩
    rw [NKs]
    refine ⟨_, _, rfl, by rw [NKv], ?_⟩
    rw [NKs]
    exact ⟨_, _, rfl, by rw [NKv], by rw [NKs]⟩
  | sum c ps =>
    obtain ⟨b, h1, rs, h2, h3⟩ := h
    show NKv H (.tup [_, _, _]) _
    rw [NKv]
    refine ⟨a, _, rfl, h1, ?_⟩
    rw [NKs]
    refine ⟨_, _, rfl, by rw [NKv], ?_⟩
    rw [NKs]
    refine ⟨_, _, rfl, by rw [NKv], ?_⟩
    rw [NKs]
    refine ⟨_, _, rfl, ?_, by rw [NKs]⟩
    rw [NKv]
    exact ⟨b, _, rfl, h2, PrAt.keys h3⟩
theorem depth_pairs : ∀ ps : List (Nat × Int), NestedKey.depthAll (ps.map fun p => NestedKey.tup [.num (p.1 : Int), .num p.2]) ≤ 2
  | [] => by rw [List.map_nil, NestedKey.depthAll]; omega
  | p :: r => by
    have := depth_pairs r
    rw [List.map_cons, NestedKey.depthAll]
    simp only [NestedKey.depth, NestedKey.depthAll]
    omega
theorem Nd.depth (x : Nd) : x.key.depth ≤ 8 := by
  cases x with
  | word w => show NestedKey.depth (.tup [_, _]) ≤ 8; simp only [NestedKey.depth, NestedKey.depthAll]; omega
  | leaf k n => show NestedKey.depth (.tup [_, _]) ≤ 8; simp only [NestedKey.depth, NestedKey.depthAll]; omega
  | op o s t => show NestedKey.depth (.tup [_, _, _]) ≤ 8; simp only [NestedKey.depth, NestedKey.depthAll]; omega
  | sum c ps =>
    have := depth_pairs ps
    show NestedKey.depth (.tup [_, _, _]) ≤ 8
    simp only [NestedKey.depth, NestedKey.depthAll]
    omega
theorem pairs_inj : ∀ {ps qs : List (Nat × Int)}, (ps.map fun p => NestedKey.tup [.num (p.1 : Int), .num p.2]) = (qs.map fun p => NestedKey.tup [.num (p.1 : Int), .num p.2]) → ps = qs
  | [], [], _ => rfl
  | [], _ :: _, h => by cases h
  | _ :: _, [], h => by cases h
  | (a, b) :: r, (c, d) :: u, h => by
    rw [List.map_cons, List.map_cons] at h
    injection h with h1 h2
    injection h1 with h3
    injection h3 with h4 h5
    injection h4 with h6
    injection h5 with h7
    injection h7 with h8
    rw [pairs_inj h2]
    have e1 : a = c := by exact_mod_cast h6
    have e2 : b = d := h8
    rw [e1, e2]
theorem Nd.key_inj {ns : List Nd} {i j : Nat} {x y : Nd} (ox : x.Ok ns i) (oy : y.Ok ns j) (h : x.key = y.key) : x = y := by
  have nw : ∀ {k : Str} {n : Nat}, LeafOk k n → k ≠ "word" := fun {k n} l e => by
    subst e
    rcases l with ⟨l | l, _⟩ | ⟨l | l, _⟩ <;> exact absurd l (by decide)
  cases x with
  | word w =>
    cases y with
    | word v => injection h with h1; injection h1 with h2 h3; injection h3 with h4; injection h4 with h5; rw [h5]
    | leaf k n => injection h with h1; injection h1 with h2 h3; injection h2 with h4; exact absurd h4.symm (nw oy)
    | op o s t => injection h with h1; injection h1 with h2 h3; injection h3 with h4 h5; cases h5
    | sum c ps => injection h with h1; injection h1 with h2 h3; injection h3 with h4 h5; cases h5
  | leaf k n =>
    cases y with
    | word v => injection h with h1; injection h1 with h2 h3; injection h2 with h4; exact absurd h4 (nw ox)
    | leaf k' n' =>
      injection h with h1; injection h1 with h2 h3; injection h2 with h4; injection h3 with h5; injection h5 with h6
      have : n = n' := by exact_mod_cast h6
      rw [h4, this]
    | op o s t => injection h with h1; injection h1 with h2 h3; injection h3 with h4 h5; cases h5
    | sum c ps => injection h with h1; injection h1 with h2 h3; injection h3 with h4 h5; cases h5
  | op o s t =>
    cases y with
    | word v => injection h with h1; injection h1 with h2 h3; injection h3 with h4 h5; cases h5
    | leaf k n => injection h with h1; injection h1 with h2 h3; injection h3 with h4 h5; cases h5
    | op o' s' t' =>
      injection h with h1; injection h1 with h2 h3; injection h2 with h4; injection h3 with h5 h6; injection h5 with h7; injection h6 with h8; injection h8 with h9
      have e1 : s = s' := by exact_mod_cast h7
      have e2 : t = t' := by exact_mod_cast h9
      rw [h4, e1, e2]
    | sum c ps => injection h with h1; injection h1 with h2 h3; injection h3 with h4 h5; injection h5 with h6; cases h6
  | sum c ps =>
    cases y with
    | word v => injection h with h1; injection h1 with h2 h3; injection h3 with h4 h5; cases h5
    | leaf k n => injection h with h1; injection h1 with h2 h3; injection h3 with h4 h5; cases h5
    | op o s t => injection h with h1; injection h1 with h2 h3; injection h3 with h4 h5; injection h5 with h6; cases h6
    | sum d qs =>
      injection h with h1; injection h1 with h2 h3; injection h3 with h5 h6; injection h5 with h7; injection h6 with h8; injection h8 with h9
      rw [h7, pairs_inj h9]
end K30


open PySem.W
namespace K30
local macro_rules | `(tactic| walk_at "w1") => `(tactic| first
  | (with_reducible refine w_dget ?_)
  | (with_reducible refine w_dput ?_)
  | (with_reducible refine w_fld ?_)
  | (with_reducible refine w_fldS ?_)
  | (with_reducible refine w_md ?_)
  | (with_reducible refine w_getN ?_)
  | ((with_reducible refine' w_kFld ?hT ?hh ?hm ?hl ?_); (case hT => assumption); (case hh => assumption); (case hm => decide); (case hl => exact rfl)))
structure PoAt (P : Program) (w : World) (C : Addr) (H : Hp) (p l d : Addr) (ns : List Nd) : Prop where
  wf : PWf ns
  ob : ∃ dx, H p = some (.ins C dx [("nodes", .ref l), ("numbers", .ref d)])
  li : ∃ (as : List Addr) (kvs : List NEnt), H l = some (.lst (as.map V.ref)) ∧ H d = some (NumO P w d kvs) ∧ as.length = ns.length ∧ kvs.length = ns.length ∧
    ∀ (j : Nat) (a : Addr) (x : Nd), as[j]? = some a → ns[j]? = some x → NdAt H a x ∧ kvs[j]? = some (x.key, a, (j : Int))
/-- all but the pool's own list and dict stays -/
def PFr (l d : Addr) (H H' : Hp) : Prop := ∀ b o, b ≠ l → b ≠ d → H b = some o → H' b = some o
theorem PFr.refl (l d : Addr) (H : Hp) : PFr l d H H := fun _ _ _ _ e => e
theorem PFr.trans {l d : Addr} {H H1 H2 : Hp} (a : PFr l d H H1) (b : PFr l d H1 H2) : PFr l d H H2 := fun c o h1 h2 e => b c o h1 h2 (a c o h1 h2 e)
theorem PFr.of {l d : Addr} {H H' : Hp} (s : Same H H') : PFr l d H H' := fun b o _ _ e => s b o e
theorem Same.tps {H H' : Hp} (s : Same H H') : Tps H H' := fun a xs e => s _ _ e
section
variable {P : Program} {w : World} {K : PySem.W.Frag} {mg : Str → Option Value} {base : Heap} {C : Addr} {H H' : Hp} {p l d : Addr} {ns : List Nd}
theorem PoAt.same (h : PoAt P w C H p l d ns) (s : Same H H') : PoAt P w C H' p l d ns := by
  obtain ⟨dx, ho⟩ := h.ob
  obtain ⟨as, kvs, h1, h2, h3, h4, h5⟩ := h.li
  exact ⟨h.wf, ⟨dx, s _ _ ho⟩, as, kvs, s _ _ h1, s _ _ h2, h3, h4, fun j a x e1 e2 => ⟨(h5 j a x e1 e2).1.tps (Same.tps s), (h5 j a x e1 e2).2⟩⟩
theorem PoAt.frTps (h : PoAt P w C H p l d ns) (f : PFr l d H H') : Tps H H' := by
  obtain ⟨as, kvs, h1, h2, _⟩ := h.li
  exact fun a xs e => f a _ (ne_of e h1 (by intro z; cases z)) (ne_of e h2 (by intro z; cases z)) e
theorem PoAt.node (h : PoAt P w C H p l d ns) {t : Nat} {x : Nd} (hx : ns[t]? = some x) : ∃ (as : List Addr) (a : Addr), H l = some (.lst (as.map V.ref)) ∧ atI (as.map V.ref) (t : Int) = some (.ref a) ∧ NdAt H a x := by
  obtain ⟨as, kvs, h1, h2, h3, h4, h5⟩ := h.li
  have lt := (List.getElem?_eq_some_iff.mp hx).1
  obtain ⟨a, ha⟩ : ∃ a, as[t]? = some a := ⟨_, List.getElem?_eq_getElem (by rw [h3]; exact lt)⟩
  exact ⟨as, a, h1, atI_nat (by rw [List.getElem?_map, ha]; rfl), (h5 t a x ha hx).1⟩
theorem PoAt.look {as : List Addr} {kvs : List NEnt} (wf : PWf ns) (h3 : as.length = ns.length) (h4 : kvs.length = ns.length) (h5 : ∀ (j : Nat) (a : Addr) (x : Nd), as[j]? = some a → ns[j]? = some x → NdAt H a x ∧ kvs[j]? = some (x.key, a, (j : Int)))
    {x : Nd} (ox : x.Ok ns ns.length) : nLook kvs x.key = if x ∈ ns then some ((ns.idxOf x : Nat) : Int) else none := by
  have ent : ∀ (j : Nat) (e : NEnt), kvs[j]? = some e → ∃ y a, ns[j]? = some y ∧ e = (y.key, a, (j : Int)) := fun j e he => by
    have lt := (List.getElem?_eq_some_iff.mp he).1
    obtain ⟨y, hy⟩ : ∃ y, ns[j]? = some y := ⟨_, List.getElem?_eq_getElem (by omega)⟩
    obtain ⟨a, ha⟩ : ∃ a, as[j]? = some a := ⟨_, List.getElem?_eq_getElem (by omega)⟩
    have := (h5 j a y ha hy).2
    rw [he] at this
    exact ⟨y, a, hy, Option.some.inj this⟩
  unfold nLook
  cases hf : kvs.find? fun e => e.1 = x.key with
  | none =>
    rw [if_neg fun m => ?_]
    · rfl
    have hi := idx_at m
    have lt := (List.getElem?_eq_some_iff.mp hi).1
    obtain ⟨a, ha⟩ : ∃ a, as[ns.idxOf x]? = some a := ⟨_, List.getElem?_eq_getElem (by omega)⟩
    have hk := (h5 _ a x ha hi).2
    have := List.find?_eq_none.mp hf _ (List.mem_of_getElem? hk)
    simp at this
  | some e =>
    have he : e.1 = x.key := by simpa using List.find?_some hf
    obtain ⟨j, hj⟩ := List.mem_iff_getElem?.mp (List.mem_of_find?_eq_some hf)
    obtain ⟨y, a, hy, ee⟩ := ent j e hj
    have exy : y = x := by
      refine Nd.key_inj (wf.ok j y hy) ox ?_
      rw [← he, ee]
    subst exy
    have m := List.mem_of_getElem? hy
    rw [if_pos m]
    have ej : ns.idxOf y = j := (List.getElem?_inj (List.idxOf_lt_length_of_mem m) wf.nd).mp ((idx_at m).trans hy.symm)
    rw [ej, ee]
    rfl
end
def spTerm (P : Program) (w : World) (C : Addr) : Sp := fun vs H Q _ => ∃ (p l d : Addr) (ns : List Nd) (a : Addr) (x : Nd), vs = [.ref p, .ref a] ∧ PoAt P w C H p l d ns ∧ ns.length < 100000 ∧ NdAt H a x ∧ x.Ok ns ns.length ∧
  ∀ H', PoAt P w C H' p l d (intern ns x).1 → PFr l d H H' → Q (.int ((intern ns x).2 : Nat)) H'
section
variable {P : Program} {w : World} {K : PySem.W.Frag} {mg : Str → Option Value} {base : Heap} {C_Pool : Addr}
theorem ok_Pool_term (b_len : mg "len" = none) (T_Pool : Ob K C_Pool poN) (Z : StM K C_Pool "term" "Pool.term" s_Pool_term ["self", "node"]) : Md P w K mg base 1 C_Pool "term" (spTerm P w C_Pool) := by
  refine Z.md sc_Pool_term (fun vs H Q E h => by obtain ⟨p, l, d, ns, a, x, rfl, _⟩ := h; rfl) (fun f cdv A outer s H vs Q E hr h => ?_)
  obtain ⟨p, l, d, ns, a, x, rfl, hP, hn, hx, ox, q⟩ := h
  refine ⟨_, (pss_cons (ps_set (i := 2) sc_Pool_term.nd rfl (.inl rfl) (pe_getN (hu9 hr) (pe_fld (pv 0) rfl) (pv 1)))
      (pss_cons (ps_if (pt_cmpR op_isNQ (pv 2) pe_non (nomark _)) (pss_cons (ps_set (i := 2) sc_Pool_term.nd rfl (.inl rfl) (pe_callB call_lenQ (by rfl) b_len PySem.boot_len (pa_cons (pe_fld (pv 0) rfl) pa_nil)))
      (pss_cons (ps_asg (pv 2) (pg_sub (pe_fld (pv 0) rfl) (pv 1) (set_num (hu9 hr))))
      (pss_one (ps_expr (pe_bm PySem.F.plainAttrs_list PySem.F.slot_list_append PySem.F.type_list_append mt_append (pe_fld (pv 0) rfl) (pa_cons (pv 1) pa_nil)))))) pss_nil)
      (pss_one (ps_ret (pv 2))))), ?_⟩
  obtain ⟨dx, ho⟩ := hP.ob
  obtain ⟨as, kvs, h1, h2, h3, h4, h5⟩ := hP.li
  have hk : NKeys H kvs := fun e he => by
    obtain ⟨j, hj⟩ := List.mem_iff_getElem?.mp he
    have lt := (List.getElem?_eq_some_iff.mp hj).1
    obtain ⟨y, hy⟩ : ∃ y, ns[j]? = some y := ⟨_, List.getElem?_eq_getElem (by omega)⟩
    obtain ⟨b, hb⟩ : ∃ b, as[j]? = some b := ⟨_, List.getElem?_eq_getElem (by omega)⟩
    obtain ⟨g1, g2⟩ := h5 j b y hb hy
    rw [hj] at g2
    cases g2
    exact ⟨g1.key, y.depth⟩
  have lk := PoAt.look hP.wf h3 h4 h5 ox
  (with_reducible refine w_seq ?_)
  (with_reducible refine w_asg ?_)
  (with_reducible refine w_getN ?_)
  (with_reducible refine w_fld ?_)
  ((with_reducible refine' w_var ?hv ?_); (case hv => exact rfl))
  ((with_reducible refine' w_kFld ?hT ?hh ?hm ?hl ?_); (case hT => assumption); (case hh => assumption); (case hm => decide); (case hl => exact rfl))
  refine ⟨d, kvs, rfl, h2, ?_⟩
  ((with_reducible refine' w_var ?hv ?_); (case hv => exact rfl))
  refine ⟨d, a, kvs, x.key, rfl, rfl, h2, hk, hx.key, x.depth, ?_⟩
  rw [lk]
  by_cases m : x ∈ ns
  · rw [if_pos m]
    (with_reducible refine w_name ?_)
    (with_reducible refine w_seq ?_)
    (with_reducible refine w_ifS ?_)
    (with_reducible refine w_test ?_)
    (with_reducible refine w_op ?_)
    ((with_reducible refine' w_var ?hv ?_); (case hv => exact rfl))
    (with_reducible refine w_c ?_)
    refine ⟨rfl, ?_⟩
    (with_reducible refine w_bl ?_)
    refine w_decF (by intro z; cases z) ?_
    (with_reducible refine w_next ?_)
    (with_reducible refine w_ret ?_)
    ((with_reducible refine' w_var ?hv ?_); (case hv => exact rfl))
    have e : intern ns x = (ns, ns.idxOf x) := by unfold intern; rw [if_pos m]
    rw [e] at q
    exact q H hP (PFr.refl _ _ _)
  · rw [if_neg m]
    (with_reducible refine w_name ?_)
    (with_reducible refine w_seq ?_)
    (with_reducible refine w_ifS ?_)
    (with_reducible refine w_test ?_)
    (with_reducible refine w_op ?_)
    ((with_reducible refine' w_var ?hv ?_); (case hv => exact rfl))
    (with_reducible refine w_c ?_)
    refine ⟨rfl, ?_⟩
    (with_reducible refine w_bl ?_)
    refine w_decT rfl ?_
    (with_reducible refine w_seq ?_)
    (with_reducible refine w_asg ?_)
    (with_reducible refine w_cb ?_)
    (with_reducible refine w_cons ?_)
    (with_reducible refine w_fld ?_)
    ((with_reducible refine' w_var ?hv ?_); (case hv => exact rfl))
    ((with_reducible refine' w_kFld ?hT ?hh ?hm ?hl ?_); (case hT => assumption); (case hh => assumption); (case hm => decide); (case hl => exact rfl))
    (with_reducible refine w_nil ?_)
    ((with_reducible refine' w_lenL ?hh ?_); (case hh => assumption))
    (with_reducible refine w_name ?_)
    (with_reducible refine w_seq ?_)
    (with_reducible refine w_asg ?_)
    ((with_reducible refine' w_var ?hv ?_); (case hv => exact rfl))
    (with_reducible refine w_sub ?_)
    (with_reducible refine w_fld ?_)
    ((with_reducible refine' w_var ?hv ?_); (case hv => exact rfl))
    ((with_reducible refine' w_kFld ?hT ?hh ?hm ?hl ?_); (case hT => assumption); (case hh => assumption); (case hm => decide); (case hl => exact rfl))
    ((with_reducible refine' w_var ?hv ?_); (case hv => exact rfl))
    have en : (((as.map V.ref).length : Nat) : Int) = (ns.length : Int) := by rw [List.length_map, h3]
    rw [en]
    refine ⟨d, a, kvs, x.key, _, rfl, rfl, rfl, h2, hk, hx.key, x.depth, by rw [lk, if_neg m], by rw [h4]; exact Nat.lt_of_lt_of_le hn (by decide), ?_⟩
    have npd : p ≠ d := ne_of ho h2 (by intro z; cases z)
    have nld : l ≠ d := ne_of h1 h2 (by intro z; cases z)
    have npl : p ≠ l := ne_of ho h1 (by intro z; cases z)
    generalize e3 : upd H d (NumO _ _ d (kvs ++ [(x.key, a, (ns.length : Int))])) = H3
    have ho3 : H3 p = some (.ins C_Pool dx [("nodes", .ref l), ("numbers", .ref d)]) := by rw [← e3, upd_ne npd]; exact ho
    have hl3 : H3 l = some (.lst (as.map V.ref)) := by rw [← e3, upd_ne nld]; exact h1
    have hd3 : H3 d = some (NumO P w d (kvs ++ [(x.key, a, (ns.length : Int))])) := by rw [← e3, upd_same]; rfl
    (with_reducible refine w_drop ?_)
    (with_reducible refine w_bm ?_)
    (with_reducible refine w_fld ?_)
    ((with_reducible refine' w_var ?hv ?_); (case hv => exact rfl))
    ((with_reducible refine' w_kFld ?hT ?hh ?hm ?hl ?_); (case hT => assumption); (case hh => assumption); (case hm => decide); (case hl => exact rfl))
    ((with_reducible refine' w_tyL ?hh ?_); (case hh => assumption))
    (with_reducible refine w_cons ?_)
    ((with_reducible refine' w_var ?hv ?_); (case hv => exact rfl))
    (with_reducible refine w_nil ?_)
    refine w_append hl3 (by rw [List.length_map, h3]; exact Nat.lt_of_lt_of_le hn (by decide)) fun H4 h4l b4 => ?_
    (with_reducible refine w_ret ?_)
    ((with_reducible refine' w_var ?hv ?_); (case hv => exact rfl))
    have e : intern ns x = (ns ++ [x], ns.length) := by unfold intern; rw [if_neg m]
    rw [e] at q
    have old : ∀ b o, b ≠ l → b ≠ d → H b = some o → H4 b = some o := fun b o n1 n2 ho => b4 b o n1 (by rw [← e3, upd_ne n2]; exact ho)
    have tp : Tps H H4 := fun b xs e => old b _ (ne_of e h1 (by intro z; cases z)) (ne_of e h2 (by intro z; cases z)) e
    refine q H4 ⟨hP.wf.snoc m ox, ⟨dx, old _ _ npl npd ho⟩, as ++ [a], kvs ++ [(x.key, a, (ns.length : Int))], by rw [h4l, List.map_append]; rfl, b4 _ _ (Ne.symm nld) hd3, by rw [List.length_append, List.length_append, h3]; rfl, by rw [List.length_append, List.length_append, h4]; rfl, fun j b y e1 e2 => ?_⟩ old
    rcases Nat.lt_or_ge j ns.length with lt | ge
    · rw [List.getElem?_append_left (by omega)] at e1 e2 ⊢
      exact ⟨(h5 j b y e1 e2).1.tps tp, (h5 j b y e1 e2).2⟩
    · have hj := (List.getElem?_eq_some_iff.mp e2).1
      rw [List.length_append, List.length_singleton] at hj
      obtain rfl : j = ns.length := by omega
      rw [List.getElem?_append_right (by omega)] at e1 e2 ⊢
      rw [Nat.sub_self] at e2
      rw [h3, Nat.sub_self] at e1
      rw [h4, Nat.sub_self]
      cases e1
      cases e2
      exact ⟨hx.tps tp, rfl⟩
end
end K30


open PySem.W
namespace K30
local macro_rules | `(tactic| walk_at "w1") => `(tactic| first
  | (with_reducible refine w_dget ?_)
  | (with_reducible refine w_dput ?_)
  | (with_reducible refine w_fld ?_)
  | (with_reducible refine w_fldS ?_)
  | (with_reducible refine w_md ?_)
  | (with_reducible refine w_getN ?_)
  | ((with_reducible refine' w_kFld ?hT ?hh ?hm ?hl ?_); (case hT => assumption); (case hh => assumption); (case hm => decide); (case hl => exact rfl)))
theorem sc_Pool_linear : FnScope ["self", "t", "node"] ["self", "t"] (defScope s_Pool_linear) := ⟨rfl, rfl, rfl, by decide +kernel, rfl, by decide +kernel, by decide +kernel⟩
theorem sc_Pool_sum_of : FnScope ["self", "base", "pairs"] ["self", "base", "pairs"] (defScope s_Pool_sum_of) := ⟨rfl, rfl, rfl, by decide +kernel, rfl, by decide +kernel, by decide +kernel⟩
theorem sc_Pool_parts_of_operation : FnScope ["self", "op", "s", "t", "x", "y"] ["self", "op", "s", "t"] (defScope s_Pool_parts_of_operation) := ⟨rfl, rfl, rfl, by decide +kernel, rfl, by decide +kernel, by decide +kernel⟩
def optV : Option Int → V
  | some w => .int w
  | none => .non
def spWordP (P : Program) (w : World) (C : Addr) : Sp := fun vs H Q _ => ∃ (p l d : Addr) (ns : List Nd) (v : Int), vs = [.ref p, .int v] ∧ PoAt P w C H p l d ns ∧ ns.length < 100000 ∧ W32 v ∧
  ∀ H', PoAt P w C H' p l d (intern ns (.word v)).1 → PFr l d H H' → Q (.int ((intern ns (.word v)).2 : Nat)) H'
def spNode (P : Program) (w : World) (C : Addr) : Sp := fun vs H Q _ => ∃ (p l d : Addr) (ns : List Nd) (t : Nat), vs = [.ref p, .int (t : Int)] ∧ PoAt P w C H p l d ns ∧ t < ns.length ∧ ∀ a x, ns[t]? = some x → NdAt H a x → Q (.ref a) H
def spWordOf (P : Program) (w : World) (C : Addr) : Sp := fun vs H Q _ => ∃ (p l d : Addr) (ns : List Nd) (t : Nat), vs = [.ref p, .int (t : Int)] ∧ PoAt P w C H p l d ns ∧ t < ns.length ∧ Q (optV (wordOf ns t)) H
def spLinear (P : Program) (w : World) (C : Addr) : Sp := fun vs H Q _ => ∃ (p l d : Addr) (ns : List Nd) (t : Nat), vs = [.ref p, .int (t : Int)] ∧ PoAt P w C H p l d ns ∧ t < ns.length ∧
  ∀ r b H', H' r = some (.tup [.int (lin ns t).1, .ref b]) → PrAt H' b (lin ns t).2 → Same H H' → Q (.ref r) H'
def spSumR (P : Program) (w : World) (C : Addr) : Sp := fun vs H Q _ => ∃ (p l d : Addr) (ns : List Nd) (c : Int) (b : Addr) (ps : List (Nat × Int)), vs = [.ref p, .int c, .ref b] ∧ PoAt P w C H p l d ns ∧ ns.length < 100000 ∧ PrAt H b ps ∧ Ordered ns c ps ∧
  ∀ H', PoAt P w C H' p l d (sumR ns c ps).1 → PFr l d H H' → Q (.int ((sumR ns c ps).2 : Nat)) H'
def spInitP (P : Program) (w : World) (C : Addr) : Sp := fun vs H Q _ => ∃ (p dx : Addr), vs = [.ref p] ∧ H p = some (.ins C dx []) ∧ ∀ l d H', PoAt P w C H' p l d [] → But p H H' → H l = none → H d = none → Q .non H'
theorem op_name {o : Str} (h : IsOp o) : o ≠ "word" ∧ o ≠ "sum" ∧ o ≠ "in" ∧ o ≠ "loose" ∧ o ≠ "load" ∧ o ≠ "get" := by
  obtain ⟨g, hg⟩ := h
  simp only [tab13, List.mem_cons, Prod.mk.injEq, List.not_mem_nil, or_false] at hg
  rcases hg with ⟨rfl, _⟩ | ⟨rfl, _⟩ | ⟨rfl, _⟩ | ⟨rfl, _⟩ | ⟨rfl, _⟩ | ⟨rfl, _⟩ | ⟨rfl, _⟩ | ⟨rfl, _⟩ | ⟨rfl, _⟩ | ⟨rfl, _⟩ | ⟨rfl, _⟩ | ⟨rfl, _⟩ | ⟨rfl, _⟩ <;> decide
theorem leaf_name {k : Str} {n : Nat} (h : LeafOk k n) : k ≠ "word" ∧ k ≠ "sum" ∧ (k = "in" ∨ k = "loose" ∨ k = "load" ∨ k = "get") := by
  rcases h with ⟨rfl | rfl, _⟩ | ⟨rfl | rfl, _⟩ <;> decide
theorem PWf.nil : PWf [] := ⟨List.nodup_nil, fun j x h => by simp at h⟩
def pairD (p : Nat × Int) : PyData := .tuple [.int (p.1 : Int), .int p.2]
theorem lay_pairs : ∀ ps : List (Nat × Int), PyData.canLayAll0 (ps.map pairD) = true ∧ PyData.depthAll (ps.map pairD) ≤ 1
  | [] => by simp [PyData.canLayAll0, PyData.depthAll]
  | x :: r => by
    have := lay_pairs r
    refine ⟨by simp [PyData.canLayAll0, PyData.canLay0, pairD, this.1], ?_⟩
    have h2 := this.2
    simp only [List.map_cons, PyData.depthAll, pairD, PyData.depth]
    omega
theorem pairs_shaped (ps : List (Nat × Int)) : SeqAt.shaped (.tuple (ps.map pairD)) = true := by
  have l := lay_pairs ps
  have h2 := l.2
  unfold SeqAt.shaped
  simp only [Bool.and_eq_true, decide_eq_true_eq, PyData.canLay0, PyData.depth]
  refine ⟨l.1, decide_eq_true ?_⟩
  show PyData.depthAll (ps.map pairD) + 1 ≤ _
  exact Nat.le_trans (Nat.succ_le_succ h2) (by decide : (2 : Nat) ≤ 64)
theorem dp_pairs {K : PySem.W.Frag} {H : Hp} {b : Addr} {ps : List (Nat × Int)} (h : PrAt H b ps) : Dp K H (.ref b) (.tuple (ps.map pairD)) := by
  obtain ⟨rs, h1, h2⟩ := h
  refine .tup (.of h1) ?_
  clear h1
  induction h2 with
  | nil => exact .nil
  | @cons r p _ _ e _ ih => exact .cons (.tup (.of e) (.cons (.int _) (.cons (.int _) .nil))) ih
section
variable {P : Program} {w : World} {K : PySem.W.Frag} {mg : Str → Option Value} {base : Heap} {C_Pool : Addr}
theorem ok_Pool (T_Pool : Ob K C_Pool poN) (Z : StI K mg "Pool" C_Pool "Pool.__init__" s_Pool_init ["self"]) : Mkr P w K mg base 1 "Pool" C_Pool (spInitP P w C_Pool) := by
  refine Z.mkr sc_Pool_init (fun vs H Q E h => by obtain ⟨p, dx, rfl, _⟩ := h; rfl) (fun f cdv A outer s H vs Q E hr h => ?_)
  obtain ⟨p, dx, rfl, ho, q⟩ := h
  refine ⟨_, (pss_cons (ps_fld (pv 0) (pe_lst pa_nil) rfl)
      (pss_one (ps_fld (pv 0) pe_dnewN rfl))), ?_⟩
  (with_reducible refine w_seq ?_)
  (with_reducible refine w_fldS ?_)
  (with_reducible refine w_lst ?_)
  (with_reducible refine w_nil ?_)
  refine w_kLst (by show 0 ≤ sizeLine; decide) fun l H1 nl s1 hl => ?_
  have ho1 := s1 _ _ ho
  ((with_reducible refine' w_var ?hv ?_); (case hv => exact rfl))
  refine w_kFldS T_Pool ho1 (by decide) (by show 0 < 1000; decide) rfl fun H2 ho2 b2 => ?_
  (with_reducible refine w_fldS ?_)
  refine w_dnewN fun d H3 nd s3 hd => ?_
  have ho3 := s3 _ _ ho2
  have hl3 := s3 _ _ (b2 _ _ (ne_of hl ho1 (by intro z; cases z)) hl)
  ((with_reducible refine' w_var ?hv ?_); (case hv => exact rfl))
  refine w_kFldS T_Pool ho3 (by decide) (by show 1 < 1000; decide) rfl fun H4 ho4 b4 => ?_
  skip
  have npl : l ≠ p := fun e => by rw [e, ho] at nl; cases nl
  have npd : d ≠ p := fun e => by rw [e, ho2] at nd; cases nd
  refine q l d H4 ⟨PWf.nil, ⟨dx, ho4⟩, [], [], b4 _ _ npl hl3, b4 _ _ npd hd, rfl, rfl, fun j a x h => by simp at h⟩ (fun b o n e => b4 _ _ n (s3 _ _ (b2 _ _ n (s1 _ _ e)))) nl ?_
  cases e : H d with
  | none => rfl
  | some o =>
    have := b2 d o npd (s1 _ _ e)
    rw [nd] at this
    cases this
theorem ok_Pool_word (T_Pool : Ob K C_Pool poN) (m_Pool_term : Md P w K mg base 1 C_Pool "term" (spTerm P w C_Pool)) (Z : StM K C_Pool "word" "Pool.word" s_Pool_word ["self", "w"]) : Md P w K mg base 2 C_Pool "word" (spWordP P w C_Pool) := by
  refine Z.md sc_Pool_word (fun vs H Q E h => by obtain ⟨p, l, d, ns, v, rfl, _⟩ := h; rfl) (fun f cdv A outer s H vs Q E hr h => ?_)
  obtain ⟨p, l, d, ns, v, rfl, hP, hn, hv, q⟩ := h
  refine ⟨_, (pss_one (ps_ret (pe_md T_Pool.cl m_Pool_term hr (by first | decide | omega) (pv 0) (pa_cons (pe_tup (pa_cons pe_str (pa_cons (pv 1) pa_nil))) pa_nil)))), ?_⟩
  obtain ⟨dx, ho⟩ := hP.ob
  (with_reducible refine w_ret ?_)
  (with_reducible refine w_md ?_)
  ((with_reducible refine' w_var ?hv ?_); (case hv => exact rfl))
  refine w_kMd ho rfl ?_
  (with_reducible refine w_cons ?_)
  (with_reducible refine w_tup ?_)
  (with_reducible refine w_cons ?_)
  (with_reducible refine w_c ?_)
  (with_reducible refine w_cons ?_)
  ((with_reducible refine' w_var ?hv ?_); (case hv => exact rfl))
  (with_reducible refine w_nil ?_)
  refine w_kTup (by show 2 ≤ sizeLine; decide) fun a H1 na s1 ha => ?_
  (with_reducible refine w_nil ?_)
  exact ⟨p, l, d, ns, a, .word v, rfl, hP.same s1, hn, ha, hv, fun H' hP' f => q H' hP' ((PFr.of s1).trans f)⟩
theorem ok_Pool_node (T_Pool : Ob K C_Pool poN) (Z : StM K C_Pool "node" "Pool.node" s_Pool_node ["self", "t"]) : Md P w K mg base 1 C_Pool "node" (spNode P w C_Pool) := by
  refine Z.md sc_Pool_node (fun vs H Q E h => by obtain ⟨p, l, d, ns, t, rfl, _⟩ := h; rfl) (fun f cdv A outer s H vs Q E hr h => ?_)
  obtain ⟨p, l, d, ns, t, rfl, hP, ht, q⟩ := h
  refine ⟨_, (pss_one (ps_ret (pe_ix ix_list (pe_fld (pv 0) rfl) (pv 1) (fun _ _ => rfl)))), ?_⟩
  obtain ⟨dx, ho⟩ := hP.ob
  obtain ⟨x, hx⟩ : ∃ x, ns[t]? = some x := ⟨_, List.getElem?_eq_getElem ht⟩
  obtain ⟨as, a, hl, hi, ha⟩ := hP.node hx
  (with_reducible refine w_ret ?_)
  (with_reducible refine w_op ?_)
  (with_reducible refine w_fld ?_)
  ((with_reducible refine' w_var ?hv ?_); (case hv => exact rfl))
  ((with_reducible refine' w_kFld ?hT ?hh ?hm ?hl ?_); (case hT => assumption); (case hh => assumption); (case hm => decide); (case hl => exact rfl))
  ((with_reducible refine' w_var ?hv ?_); (case hv => exact rfl))
  refine w_ixL hl hi ?_
  skip
  exact q a x hx ha
theorem ok_Pool_word_of (T_Pool : Ob K C_Pool poN) (Z : StM K C_Pool "word_of" "Pool.word_of" s_Pool_word_of ["self", "t"]) : Md P w K mg base 1 C_Pool "word_of" (spWordOf P w C_Pool) := by
  refine Z.md sc_Pool_word_of (fun vs H Q E h => by obtain ⟨p, l, d, ns, t, rfl, _⟩ := h; rfl) (fun f cdv A outer s H vs Q E hr h => ?_)
  obtain ⟨p, l, d, ns, t, rfl, hP, ht, q⟩ := h
  refine ⟨_, (pss_cons (ps_set (i := 2) sc_Pool_word_of.nd rfl (.inl rfl) (pe_ix ix_list (pe_fld (pv 0) rfl) (pv 1) (fun _ _ => rfl)))
      (pss_one (ps_ret (pe_ifExp (pt_cmpR op_eq (pe_ix ix_tup (pv 2) pe_int (fun _ _ => rfl)) pe_str (nomark _)) (pe_ix ix_tup (pv 2) pe_int (fun _ _ => rfl)) pe_non)))), ?_⟩
  obtain ⟨dx, ho⟩ := hP.ob
  obtain ⟨x, hx⟩ : ∃ x, ns[t]? = some x := ⟨_, List.getElem?_eq_getElem ht⟩
  obtain ⟨as, a, hl, hi, ha⟩ := hP.node hx
  (with_reducible refine w_seq ?_)
  (with_reducible refine w_asg ?_)
  (with_reducible refine w_op ?_)
  (with_reducible refine w_fld ?_)
  ((with_reducible refine' w_var ?hv ?_); (case hv => exact rfl))
  ((with_reducible refine' w_kFld ?hT ?hh ?hm ?hl ?_); (case hT => assumption); (case hh => assumption); (case hm => decide); (case hl => exact rfl))
  ((with_reducible refine' w_var ?hv ?_); (case hv => exact rfl))
  refine w_ixL hl hi ?_
  (with_reducible refine w_name ?_)
  (with_reducible refine w_ret ?_)
  (with_reducible refine w_if ?_)
  (with_reducible refine w_test ?_)
  (with_reducible refine w_op ?_)
  (with_reducible refine w_op ?_)
  ((with_reducible refine' w_var ?hv ?_); (case hv => exact rfl))
  (with_reducible refine w_c ?_)
  unfold wordOf at q
  rw [hx] at q
  have okx := hP.wf.ok t x hx
  cases x with
  | word v =>
    refine w_ixT ha rfl ?_
    (with_reducible refine w_c ?_)
    (with_reducible refine w_eqS ?_)
    (with_reducible refine w_bl ?_)
    refine w_decT rfl ?_
    (with_reducible refine w_op ?_)
    ((with_reducible refine' w_var ?hv ?_); (case hv => exact rfl))
    (with_reducible refine w_c ?_)
    ((with_reducible refine' w_ixT ?hh ?ha ?_); (case hh => assumption); (case ha => exact rfl))
    exact q
  | leaf k n =>
    refine w_ixT ha rfl ?_
    (with_reducible refine w_c ?_)
    (with_reducible refine w_eqS ?_)
    (with_reducible refine w_bl ?_)
    refine w_decF (leaf_name okx).1 ?_
    (with_reducible refine w_c ?_)
    exact q
  | op o s u =>
    refine w_ixT ha rfl ?_
    (with_reducible refine w_c ?_)
    (with_reducible refine w_eqS ?_)
    (with_reducible refine w_bl ?_)
    refine w_decF (op_name okx.1).1 ?_
    (with_reducible refine w_c ?_)
    exact q
  | sum c ps =>
    obtain ⟨b, ha, _⟩ := ha
    refine w_ixT ha rfl ?_
    (with_reducible refine w_c ?_)
    (with_reducible refine w_eqS ?_)
    (with_reducible refine w_bl ?_)
    refine w_decF (by decide) ?_
    (with_reducible refine w_c ?_)
    exact q
theorem ok_Pool_linear (T_Pool : Ob K C_Pool poN) (Z : StM K C_Pool "linear" "Pool.linear" s_Pool_linear ["self", "t"]) : Md P w K mg base 1 C_Pool "linear" (spLinear P w C_Pool) := by
  refine Z.md sc_Pool_linear (fun vs H Q E h => by obtain ⟨p, l, d, ns, t, rfl, _⟩ := h; rfl) (fun f cdv A outer s H vs Q E hr h => ?_)
  obtain ⟨p, l, d, ns, t, rfl, hP, ht, q⟩ := h
  refine ⟨_, (pss_cons (ps_set (i := 2) sc_Pool_linear.nd rfl (.inl rfl) (pe_ix ix_list (pe_fld (pv 0) rfl) (pv 1) (fun _ _ => rfl)))
      (pss_cons (ps_if (pt_cmpR op_eq (pe_ix ix_tup (pv 2) pe_int (fun _ _ => rfl)) pe_str (nomark _)) (pss_one (ps_ret (pe_tup (pa_cons (pe_ix ix_tup (pv 2) pe_int (fun _ _ => rfl)) (pa_cons (pe_tup pa_nil) pa_nil))))) pss_nil)
      (pss_one (ps_ret (pe_ifExp (pt_cmpR op_eq (pe_ix ix_tup (pv 2) pe_int (fun _ _ => rfl)) pe_str (nomark _)) (pe_tup (pa_cons (pe_ix ix_tup (pv 2) pe_int (fun _ _ => rfl)) (pa_cons (pe_ix ix_tup (pv 2) pe_int (fun _ _ => rfl)) pa_nil))) (pe_tup (pa_cons pe_int (pa_cons (pe_tup (pa_cons (pe_tup (pa_cons (pv 1) (pa_cons pe_int pa_nil))) pa_nil)) pa_nil)))))))), ?_⟩
  obtain ⟨dx, ho⟩ := hP.ob
  obtain ⟨x, hx⟩ : ∃ x, ns[t]? = some x := ⟨_, List.getElem?_eq_getElem ht⟩
  obtain ⟨as, a, hl, hi, ha⟩ := hP.node hx
  (with_reducible refine w_seq ?_)
  (with_reducible refine w_asg ?_)
  (with_reducible refine w_op ?_)
  (with_reducible refine w_fld ?_)
  ((with_reducible refine' w_var ?hv ?_); (case hv => exact rfl))
  ((with_reducible refine' w_kFld ?hT ?hh ?hm ?hl ?_); (case hT => assumption); (case hh => assumption); (case hm => decide); (case hl => exact rfl))
  ((with_reducible refine' w_var ?hv ?_); (case hv => exact rfl))
  refine w_ixL hl hi ?_
  (with_reducible refine w_name ?_)
  (with_reducible refine w_seq ?_)
  (with_reducible refine w_ifS ?_)
  (with_reducible refine w_test ?_)
  (with_reducible refine w_op ?_)
  (with_reducible refine w_op ?_)
  ((with_reducible refine' w_var ?hv ?_); (case hv => exact rfl))
  (with_reducible refine w_c ?_)
  have okx := hP.wf.ok t x hx
  rw [lin_of hx] at q
  have one : ∀ {H1 : Hp} (b c : Addr), H1 b = some (.tup [.int (t : Int), .int 1]) → H1 c = some (.tup [.ref b]) → PrAt H1 c [(t, 1)] := fun b c h1 h2 => ⟨[b], h2, .cons h1 .nil⟩
  cases x with
  | word v =>
    refine w_ixT ha rfl ?_
    (with_reducible refine w_c ?_)
    (with_reducible refine w_eqS ?_)
    (with_reducible refine w_bl ?_)
    refine w_decT rfl ?_
    (with_reducible refine w_ret ?_)
    (with_reducible refine w_tup ?_)
    (with_reducible refine w_cons ?_)
    (with_reducible refine w_op ?_)
    ((with_reducible refine' w_var ?hv ?_); (case hv => exact rfl))
    (with_reducible refine w_c ?_)
    ((with_reducible refine' w_ixT ?hh ?ha ?_); (case hh => assumption); (case ha => exact rfl))
    (with_reducible refine w_cons ?_)
    (with_reducible refine w_tup ?_)
    (with_reducible refine w_nil ?_)
    refine w_kTup (by show 0 ≤ sizeLine; decide) fun b H1 nb s1 hb => ?_
    (with_reducible refine w_nil ?_)
    refine w_kTup (by show 2 ≤ sizeLine; decide) fun r H2 nr s2 hr2 => ?_
    skip
    exact q r b H2 hr2 ⟨[], s2 _ _ hb, .nil⟩ (s1.trans s2)
  | leaf k n =>
    refine w_ixT ha rfl ?_
    (with_reducible refine w_c ?_)
    (with_reducible refine w_eqS ?_)
    (with_reducible refine w_bl ?_)
    refine w_decF (leaf_name okx).1 ?_
    (with_reducible refine w_next ?_)
    (with_reducible refine w_ret ?_)
    (with_reducible refine w_if ?_)
    (with_reducible refine w_test ?_)
    (with_reducible refine w_op ?_)
    (with_reducible refine w_op ?_)
    ((with_reducible refine' w_var ?hv ?_); (case hv => exact rfl))
    (with_reducible refine w_c ?_)
    ((with_reducible refine' w_ixT ?hh ?ha ?_); (case hh => assumption); (case ha => exact rfl))
    (with_reducible refine w_c ?_)
    (with_reducible refine w_eqS ?_)
    (with_reducible refine w_bl ?_)
    refine w_decF (leaf_name okx).2.1 ?_
    (with_reducible refine w_tup ?_)
    (with_reducible refine w_cons ?_)
    (with_reducible refine w_c ?_)
    (with_reducible refine w_cons ?_)
    (with_reducible refine w_tup ?_)
    (with_reducible refine w_cons ?_)
    (with_reducible refine w_tup ?_)
    (with_reducible refine w_cons ?_)
    ((with_reducible refine' w_var ?hv ?_); (case hv => exact rfl))
    (with_reducible refine w_cons ?_)
    (with_reducible refine w_c ?_)
    (with_reducible refine w_nil ?_)
    refine w_kTup (by show 2 ≤ sizeLine; decide) fun b H1 nb s1 hb => ?_
    (with_reducible refine w_nil ?_)
    refine w_kTup (by show 1 ≤ sizeLine; decide) fun c H2 nc s2 hc => ?_
    (with_reducible refine w_nil ?_)
    refine w_kTup (by show 2 ≤ sizeLine; decide) fun r H3 nr s3 hr2 => ?_
    skip
    exact q r c H3 hr2 (one b c (s3 _ _ (s2 _ _ hb)) (s3 _ _ hc)) ((s1.trans s2).trans s3)
  | op o s u =>
    refine w_ixT ha rfl ?_
    (with_reducible refine w_c ?_)
    (with_reducible refine w_eqS ?_)
    (with_reducible refine w_bl ?_)
    refine w_decF (op_name okx.1).1 ?_
    (with_reducible refine w_next ?_)
    (with_reducible refine w_ret ?_)
    (with_reducible refine w_if ?_)
    (with_reducible refine w_test ?_)
    (with_reducible refine w_op ?_)
    (with_reducible refine w_op ?_)
    ((with_reducible refine' w_var ?hv ?_); (case hv => exact rfl))
    (with_reducible refine w_c ?_)
    ((with_reducible refine' w_ixT ?hh ?ha ?_); (case hh => assumption); (case ha => exact rfl))
    (with_reducible refine w_c ?_)
    (with_reducible refine w_eqS ?_)
    (with_reducible refine w_bl ?_)
    refine w_decF (op_name okx.1).2.1 ?_
    (with_reducible refine w_tup ?_)
    (with_reducible refine w_cons ?_)
    (with_reducible refine w_c ?_)
    (with_reducible refine w_cons ?_)
    (with_reducible refine w_tup ?_)
    (with_reducible refine w_cons ?_)
    (with_reducible refine w_tup ?_)
    (with_reducible refine w_cons ?_)
    ((with_reducible refine' w_var ?hv ?_); (case hv => exact rfl))
    (with_reducible refine w_cons ?_)
    (with_reducible refine w_c ?_)
    (with_reducible refine w_nil ?_)
    refine w_kTup (by show 2 ≤ sizeLine; decide) fun b H1 nb s1 hb => ?_
    (with_reducible refine w_nil ?_)
    refine w_kTup (by show 1 ≤ sizeLine; decide) fun c H2 nc s2 hc => ?_
    (with_reducible refine w_nil ?_)
    refine w_kTup (by show 2 ≤ sizeLine; decide) fun r H3 nr s3 hr2 => ?_
    skip
    exact q r c H3 hr2 (one b c (s3 _ _ (s2 _ _ hb)) (s3 _ _ hc)) ((s1.trans s2).trans s3)
  | sum c ps =>
    obtain ⟨b, ha, hb⟩ := ha
    refine w_ixT ha rfl ?_
    (with_reducible refine w_c ?_)
    (with_reducible refine w_eqS ?_)
    (with_reducible refine w_bl ?_)
    refine w_decF (by decide) ?_
    (with_reducible refine w_next ?_)
    (with_reducible refine w_ret ?_)
    (with_reducible refine w_if ?_)
    (with_reducible refine w_test ?_)
    (with_reducible refine w_op ?_)
    (with_reducible refine w_op ?_)
    ((with_reducible refine' w_var ?hv ?_); (case hv => exact rfl))
    (with_reducible refine w_c ?_)
    ((with_reducible refine' w_ixT ?hh ?ha ?_); (case hh => assumption); (case ha => exact rfl))
    (with_reducible refine w_c ?_)
    (with_reducible refine w_eqS ?_)
    (with_reducible refine w_bl ?_)
    refine w_decT rfl ?_
    (with_reducible refine w_tup ?_)
    (with_reducible refine w_cons ?_)
    (with_reducible refine w_op ?_)
    ((with_reducible refine' w_var ?hv ?_); (case hv => exact rfl))
    (with_reducible refine w_c ?_)
    ((with_reducible refine' w_ixT ?hh ?ha ?_); (case hh => assumption); (case ha => exact rfl))
    (with_reducible refine w_cons ?_)
    (with_reducible refine w_op ?_)
    ((with_reducible refine' w_var ?hv ?_); (case hv => exact rfl))
    (with_reducible refine w_c ?_)
    ((with_reducible refine' w_ixT ?hh ?ha ?_); (case hh => assumption); (case ha => exact rfl))
    (with_reducible refine w_nil ?_)
    refine w_kTup (by show 2 ≤ sizeLine; decide) fun r H3 nr s3 hr2 => ?_
    skip
    exact q r b H3 hr2 (hb.tps (Same.tps s3)) s3
theorem ok_Pool_sum_of (b_len : mg "len" = none) (T_Pool : Ob K C_Pool poN) (m_Pool_word : Md P w K mg base 2 C_Pool "word" (spWordP P w C_Pool)) (m_Pool_term : Md P w K mg base 1 C_Pool "term" (spTerm P w C_Pool)) (Z : StM K C_Pool "sum_of" "Pool.sum_of" s_Pool_sum_of ["self", "base", "pairs"]) : Md P w K mg base 3 C_Pool "sum_of" (spSumR P w C_Pool) := by
  refine Z.md sc_Pool_sum_of (fun vs H Q E h => by obtain ⟨p, l, d, ns, c, b, ps, rfl, _⟩ := h; rfl) (fun f cdv A outer s H vs Q E hr h => ?_)
  obtain ⟨p, l, d, ns, c, b, ps, rfl, hP, hn, hb, oo, q⟩ := h
  refine ⟨_, (pss_cons (ps_if (pt_cmpR (op_eqD hr.units) (pv 2) (pe_tup pa_nil) (nomark _)) (pss_one (ps_ret (pe_md T_Pool.cl m_Pool_word hr (by first | decide | omega) (pv 0) (pa_cons (pv 1) pa_nil)))) pss_nil)
      (pss_cons (ps_if (PW.pt (pw_and (pt_cmpR op_eq (pv 1) pe_int (nomark _)) (pw_and (pt_cmpR op_eq (pe_callB call_lenQ (by rfl) b_len PySem.boot_len (pa_cons (pv 2) pa_nil)) pe_int (nomark _)) (pw_and1 (pt_cmpR op_eq (pe_ix ix_tup (pe_ix ix_tup (pv 2) pe_int (fun _ _ => rfl)) pe_int (fun _ _ => rfl)) pe_int (nomark _)))))) (pss_one (ps_ret (pe_ix ix_tup (pe_ix ix_tup (pv 2) pe_int (fun _ _ => rfl)) pe_int (fun _ _ => rfl)))) pss_nil)
      (pss_one (ps_ret (pe_md T_Pool.cl m_Pool_term hr (by first | decide | omega) (pv 0) (pa_cons (pe_tup (pa_cons pe_str (pa_cons (pv 1) (pa_cons (pv 2) pa_nil)))) pa_nil)))))), ?_⟩
  obtain ⟨dx, ho⟩ := hP.ob
  (with_reducible refine w_seq ?_)
  (with_reducible refine w_ifS ?_)
  (with_reducible refine w_test ?_)
  (with_reducible refine w_op ?_)
  ((with_reducible refine' w_var ?hv ?_); (case hv => exact rfl))
  (with_reducible refine w_tup ?_)
  (with_reducible refine w_nil ?_)
  refine w_kTup (by show 0 ≤ sizeLine; decide) fun e H1 ne s1 he => ?_
  have hP1 := hP.same s1
  have ho1 := s1 _ _ ho
  have hb1 := hb.tps (Same.tps s1)
  have eqv : PyData.eqv (.tuple (ps.map pairD)) (.tuple []) = decide (ps = []) := by
    cases ps with
    | nil => simp [PyData.eqv, PyData.eqvAll]
    | cons x r => simp [PyData.eqv, PyData.eqvAll]
  refine w_eqE (dp_pairs hb1) (.tup (.of he) .nil) (pairs_shaped ps) (pairs_shaped []) eqv ?_
  (with_reducible refine w_bl ?_)
  by_cases hps : ps = []
  · refine w_decT hps ?_
    (with_reducible refine w_ret ?_)
    (with_reducible refine w_md ?_)
    ((with_reducible refine' w_var ?hv ?_); (case hv => exact rfl))
    refine w_kMd ho1 rfl ?_
    (with_reducible refine w_cons ?_)
    ((with_reducible refine' w_var ?hv ?_); (case hv => exact rfl))
    (with_reducible refine w_nil ?_)
    have e1 : sumR ns c ps = intern ns (.word c) := by unfold sumR; rw [if_pos hps]
    rw [e1] at q
    exact ⟨p, l, d, ns, c, rfl, hP1, hn, oo.w, fun H' hP' f => q H' hP' ((PFr.of s1).trans f)⟩
  · refine w_decF hps ?_
    (with_reducible refine w_next ?_)
    (with_reducible refine w_seq ?_)
    (with_reducible refine w_ifS ?_)
    (with_reducible refine w_andT ?_)
    (with_reducible refine w_test ?_)
    (with_reducible refine w_op ?_)
    ((with_reducible refine' w_var ?hv ?_); (case hv => exact rfl))
    (with_reducible refine w_c ?_)
    (with_reducible refine w_eqI ?_)
    (with_reducible refine w_bl ?_)
    obtain ⟨rs, hrs, pr⟩ := id hb1
    have lrs : rs.length = ps.length := pr.length
    have fin : ¬ (c = 0 ∧ ps.length = 1 ∧ (ps.headD (0, 0)).2 = 1) → ∀ {H2 : Hp} {a : Addr}, Same H1 H2 → H2 a = some (.tup [.str "sum", .int c, .ref b]) → spTerm P w C_Pool [.ref p, .ref a] H2 Q E0 := fun nh H2 a s2 ha => by
      have e1 : sumR ns c ps = intern ns (.sum c ps) := by unfold sumR; rw [if_neg hps, if_neg nh]
      rw [e1] at q
      have ok : (Nd.sum c ps).Ok ns ns.length := ⟨⟨oo.w, oo.asc, fun z hz => (oo.ok z hz).2, hps, fun ⟨t, f1, f2⟩ => nh ⟨f1, by rw [f2]; rfl, by rw [f2]; rfl⟩, oo.len⟩, fun z hz => ⟨(oo.ok z hz).1.lt, (oo.ok z hz).1⟩⟩
      exact ⟨p, l, d, ns, a, .sum c ps, rfl, hP1.same s2, hn, ⟨b, ha, hb1.tps (Same.tps s2)⟩, ok, fun H' hP' f => q H' hP' ((PFr.of (s1.trans s2)).trans f)⟩
    by_cases hc : c = 0
    · refine w_decT hc ?_
      (with_reducible refine w_andT ?_)
      (with_reducible refine w_test ?_)
      (with_reducible refine w_op ?_)
      (with_reducible refine w_cb ?_)
      (with_reducible refine w_cons ?_)
      ((with_reducible refine' w_var ?hv ?_); (case hv => exact rfl))
      (with_reducible refine w_nil ?_)
      refine w_lenT hrs ?_
      (with_reducible refine w_c ?_)
      (with_reducible refine w_eqI ?_)
      (with_reducible refine w_bl ?_)
      rw [List.length_map, lrs]
      by_cases hl : ps.length = 1
      · refine w_decT (by rw [hl]; rfl) ?_
        obtain ⟨⟨t, k⟩, rfl⟩ := List.length_eq_one_iff.mp hl
        cases pr with
        | @cons r _ _ _ hr1 tl =>
          cases tl
          (with_reducible refine w_test ?_)
          (with_reducible refine w_op ?_)
          (with_reducible refine w_op ?_)
          (with_reducible refine w_op ?_)
          ((with_reducible refine' w_var ?hv ?_); (case hv => exact rfl))
          (with_reducible refine w_c ?_)
          ((with_reducible refine' w_ixT ?hh ?ha ?_); (case hh => assumption); (case ha => exact rfl))
          (with_reducible refine w_c ?_)
          ((with_reducible refine' w_ixT ?hh ?ha ?_); (case hh => assumption); (case ha => exact rfl))
          (with_reducible refine w_c ?_)
          (with_reducible refine w_eqI ?_)
          (with_reducible refine w_bl ?_)
          by_cases hk : k = 1
          · refine w_decT hk ?_
            (with_reducible refine w_ret ?_)
            (with_reducible refine w_op ?_)
            (with_reducible refine w_op ?_)
            ((with_reducible refine' w_var ?hv ?_); (case hv => exact rfl))
            (with_reducible refine w_c ?_)
            ((with_reducible refine' w_ixT ?hh ?ha ?_); (case hh => assumption); (case ha => exact rfl))
            (with_reducible refine w_c ?_)
            ((with_reducible refine' w_ixT ?hh ?ha ?_); (case hh => assumption); (case ha => exact rfl))
            have e1 : sumR ns c [(t, k)] = (ns, t) := by unfold sumR; rw [if_neg (by intro z; cases z), if_pos ⟨hc, rfl, hk⟩]; rfl
            rw [e1] at q
            exact q H1 hP1 (PFr.of s1)
          · refine w_decF hk ?_
            (with_reducible refine w_next ?_)
            (with_reducible refine w_ret ?_)
            (with_reducible refine w_md ?_)
            ((with_reducible refine' w_var ?hv ?_); (case hv => exact rfl))
            refine w_kMd ho1 rfl ?_
            (with_reducible refine w_cons ?_)
            (with_reducible refine w_tup ?_)
            (with_reducible refine w_cons ?_)
            (with_reducible refine w_c ?_)
            (with_reducible refine w_cons ?_)
            ((with_reducible refine' w_var ?hv ?_); (case hv => exact rfl))
            (with_reducible refine w_cons ?_)
            ((with_reducible refine' w_var ?hv ?_); (case hv => exact rfl))
            (with_reducible refine w_nil ?_)
            refine w_kTup (by show 3 ≤ sizeLine; decide) fun a H2 na s2 ha => ?_
            (with_reducible refine w_nil ?_)
            exact fin (fun z => hk z.2.2) s2 ha
      · refine w_decF (by intro z; apply hl; exact_mod_cast z) ?_
        (with_reducible refine w_itF ?_)
        (with_reducible refine w_next ?_)
        (with_reducible refine w_ret ?_)
        (with_reducible refine w_md ?_)
        ((with_reducible refine' w_var ?hv ?_); (case hv => exact rfl))
        refine w_kMd ho1 rfl ?_
        (with_reducible refine w_cons ?_)
        (with_reducible refine w_tup ?_)
        (with_reducible refine w_cons ?_)
        (with_reducible refine w_c ?_)
        (with_reducible refine w_cons ?_)
        ((with_reducible refine' w_var ?hv ?_); (case hv => exact rfl))
        (with_reducible refine w_cons ?_)
        ((with_reducible refine' w_var ?hv ?_); (case hv => exact rfl))
        (with_reducible refine w_nil ?_)
        refine w_kTup (by show 3 ≤ sizeLine; decide) fun a H2 na s2 ha => ?_
        (with_reducible refine w_nil ?_)
        exact fin (fun z => hl z.2.1) s2 ha
    · refine w_decF hc ?_
      (with_reducible refine w_itF ?_)
      (with_reducible refine w_next ?_)
      (with_reducible refine w_ret ?_)
      (with_reducible refine w_md ?_)
      ((with_reducible refine' w_var ?hv ?_); (case hv => exact rfl))
      refine w_kMd ho1 rfl ?_
      (with_reducible refine w_cons ?_)
      (with_reducible refine w_tup ?_)
      (with_reducible refine w_cons ?_)
      (with_reducible refine w_c ?_)
      (with_reducible refine w_cons ?_)
      ((with_reducible refine' w_var ?hv ?_); (case hv => exact rfl))
      (with_reducible refine w_cons ?_)
      ((with_reducible refine' w_var ?hv ?_); (case hv => exact rfl))
      (with_reducible refine w_nil ?_)
      refine w_kTup (by show 3 ≤ sizeLine; decide) fun a H2 na s2 ha => ?_
      (with_reducible refine w_nil ?_)
      exact fin (fun z => hc z.1) s2 ha
end
end K30


open PySem.W
namespace K30
local macro_rules | `(tactic| walk_at "w1") => `(tactic| first
  | (with_reducible refine w_dget ?_)
  | (with_reducible refine w_dput ?_)
  | (with_reducible refine w_fld ?_)
  | (with_reducible refine w_fldS ?_)
  | (with_reducible refine w_md ?_)
  | (with_reducible refine w_getN ?_)
  | (with_reducible refine w_par ?_)
  | ((with_reducible refine' w_kFld ?hT ?hh ?hm ?hl ?_); (case hT => assumption); (case hh => assumption); (case hm => decide); (case hl => exact rfl)))
def fD (ks : List Nat) (f : Nat → Int) : List (Key × V) := ks.map fun (k : Nat) => (kI (k : Int), V.int (f k))
theorem kI_inj {a b : Nat} : kI (a : Int) = kI (b : Int) ↔ a = b := ⟨fun h => by injection h with e; exact_mod_cast e, fun h => by rw [h]⟩
theorem valV_fD (f : Nat → Int) (k : Nat) : ∀ ks : List Nat, valV (fD ks f) (kI (k : Int)) = if k ∈ ks then some (.int (f k)) else none
  | [] => rfl
  | j :: r => by
    by_cases e : j = k
    · subst e
      rw [if_pos (List.mem_cons_self ..)]
      exact valV_pos rfl
    · rw [show fD (j :: r) f = (kI (j : Int), V.int (f j)) :: fD r f from rfl, valV_neg (fun z => e (kI_inj.mp z)), valV_fD f k r]
      simp [Ne.symm e]
theorem putK_fD (f : Nat → Int) (k : Nat) (v : Int) (ks : List Nat) : putK (fD ks f) (kI (k : Int)) (.int v) = fD (if k ∈ ks then ks else ks ++ [k]) fun j => if j = k then v else f j := by
  unfold putK
  rw [valV_any, valV_fD]
  by_cases h : k ∈ ks
  · rw [if_pos h, if_pos h, if_pos (by rfl)]
    unfold fD
    rw [List.map_map]
    refine List.map_congr_left fun j _ => ?_
    show (if kI (j : Int) = kI (k : Int) then (kI (j : Int), V.int v) else (kI (j : Int), V.int (f j))) = _
    by_cases e : j = k
    · show _ = (kI (j : Int), V.int (if j = k then v else f j))
      rw [if_pos (kI_inj.mpr e), if_pos e]
    · show _ = (kI (j : Int), V.int (if j = k then v else f j))
      rw [if_neg (fun z => e (kI_inj.mp z)), if_neg e]
  · rw [if_neg h, if_neg h, if_neg (by decide)]
    unfold fD
    have e1 : (ks.map fun (j : Nat) => (kI (j : Int), V.int (f j))) = ks.map fun (j : Nat) => (kI (j : Int), V.int (if j = k then v else f j)) := List.map_congr_left fun j hj => by rw [if_neg (fun (e : j = k) => h (by rw [← e]; exact hj))]
    rw [List.map_append, List.map_singleton, e1]
    show _ = (ks.map fun (j : Nat) => (kI (j : Int), V.int (if j = k then v else f j))) ++ [(kI (k : Int), V.int (if k = k then v else f k))]
    rw [if_pos rfl]
def PlAt (H : Hp) (L : Addr) (ps : List (Nat × Int)) : Prop := ∃ rs : List Addr, H L = some (.lst (rs.map V.ref)) ∧ Paired (fun (r : Addr) (p : Nat × Int) => H r = some (.tup [.int (p.1 : Int), .int p.2])) rs ps
def spParts (P : Program) (w : World) (C : Addr) : Sp := fun vs H Q _ => ∃ (p l d : Addr) (ns : List Nd) (o : Str) (s t : Nat), vs = [.ref p, .str o, .int (s : Int), .int (t : Int)] ∧ PoAt P w C H p l d ns ∧ s < ns.length ∧ t < ns.length ∧
  (partsOf o s t (wordOf ns s) (wordOf ns t) = none → Q .non H) ∧ ∀ ps L H', partsOf o s t (wordOf ns s) (wordOf ns t) = some ps → PlAt H' L ps → Same H H' → Q (.ref L) H'
section
variable {P : Program} {w : World} {K : PySem.W.Frag} {mg : Str → Option Value} {base : Heap} {C_Pool : Addr}
theorem ok_Pool_parts_of_operation (g_MASK : GV mg "MASK" (.int 4294967295)) (T_Pool : Ob K C_Pool poN) (m_Pool_word_of : Md P w K mg base 1 C_Pool "word_of" (spWordOf P w C_Pool)) (Z : StM K C_Pool "parts_of_operation" "Pool.parts_of_operation" s_Pool_parts_of_operation ["self", "op", "s", "t"]) : Md P w K mg base 2 C_Pool "parts_of_operation" (spParts P w C_Pool) := by
  refine Z.md sc_Pool_parts_of_operation (fun vs H Q E h => by obtain ⟨p, l, d, ns, o, s, t, rfl, _⟩ := h; rfl) (fun f cdv A outer s H vs Q E hr h => ?_)
  obtain ⟨p, l, d, ns, o, a, b, rfl, hP, ha, hb, q0, q1⟩ := h
  refine ⟨_, (pss_cons (ps_if (pt_cmpR op_eq (pv 1) pe_str (nomark _)) (pss_one (ps_ret (pe_lst (pa_cons (pe_tup (pa_cons (pv 2) (pa_cons pe_int pa_nil))) (pa_cons (pe_tup (pa_cons (pv 3) (pa_cons pe_int pa_nil))) pa_nil))))) pss_nil)
      (pss_cons (ps_if (pt_cmpR op_eq (pv 1) pe_str (nomark _)) (pss_one (ps_ret (pe_lst (pa_cons (pe_tup (pa_cons (pv 2) (pa_cons pe_int pa_nil))) (pa_cons (pe_tup (pa_cons (pv 3) (pa_cons (pe_gv (by rfl) g_MASK) pa_nil))) pa_nil))))) pss_nil)
      (pss_cons (ps_par (i := 4) (j := 5) rfl sc_Pool_parts_of_operation.nd rfl rfl (by decide) rfl rfl (pa_cons (pe_md T_Pool.cl m_Pool_word_of hr (by first | decide | omega) (pv 0) (pa_cons (pv 2) pa_nil)) (pa_cons (pe_md T_Pool.cl m_Pool_word_of hr (by first | decide | omega) (pv 0) (pa_cons (pv 3) pa_nil)) pa_nil)) (by rfl))
      (pss_cons (ps_if (PW.pt (pw_and (pt_cmpR op_eq (pv 1) pe_str (nomark _)) (pw_and1 (pt_cmpR op_notNQ (pv 5) pe_non (nomark _))))) (pss_one (ps_ret (pe_lst (pa_cons (pe_tup (pa_cons (pv 2) (pa_cons (pv 5) pa_nil))) pa_nil)))) pss_nil)
      (pss_cons (ps_if (PW.pt (pw_and (pt_cmpR op_eq (pv 1) pe_str (nomark _)) (pw_and1 (pt_cmpR op_notNQ (pv 4) pe_non (nomark _))))) (pss_one (ps_ret (pe_lst (pa_cons (pe_tup (pa_cons (pv 3) (pa_cons (pv 4) pa_nil))) pa_nil)))) pss_nil)
      (pss_cons (ps_if (PW.pt (pw_and (pt_cmpR op_eq (pv 1) pe_str (nomark _)) (pw_and1 (pt_cmpR op_notNQ (pv 5) pe_non (nomark _))))) (pss_one (ps_ret (pe_lst (pa_cons (pe_tup (pa_cons (pv 2) (pa_cons (pe_op op_shl pe_int (pe_op op_and (pv 5) pe_int)) pa_nil))) pa_nil)))) pss_nil)
      (pss_one (ps_ret pe_non)))))))), ?_⟩
  obtain ⟨dx, ho⟩ := hP.ob
  unfold partsOf at q0 q1
  (with_reducible refine w_seq ?_)
  (with_reducible refine w_ifS ?_)
  (with_reducible refine w_test ?_)
  (with_reducible refine w_op ?_)
  ((with_reducible refine' w_var ?hv ?_); (case hv => exact rfl))
  (with_reducible refine w_c ?_)
  (with_reducible refine w_eqS ?_)
  (with_reducible refine w_bl ?_)
  by_cases h1 : o = "add"
  · rw [if_pos h1] at q1
    refine w_decT h1 ?_
    (with_reducible refine w_ret ?_)
    (with_reducible refine w_lst ?_)
    (with_reducible refine w_cons ?_)
    (with_reducible refine w_tup ?_)
    (with_reducible refine w_cons ?_)
    ((with_reducible refine' w_var ?hv ?_); (case hv => exact rfl))
    (with_reducible refine w_cons ?_)
    (with_reducible refine w_c ?_)
    (with_reducible refine w_nil ?_)
    refine w_kTup (by show 2 ≤ sizeLine; decide) fun r1 H1 nr1 s1 hr1 => ?_
    (with_reducible refine w_cons ?_)
    (with_reducible refine w_tup ?_)
    (with_reducible refine w_cons ?_)
    ((with_reducible refine' w_var ?hv ?_); (case hv => exact rfl))
    (with_reducible refine w_cons ?_)
    (with_reducible refine w_c ?_)
    (with_reducible refine w_nil ?_)
    refine w_kTup (by show 2 ≤ sizeLine; decide) fun r2 H2 nr2 s2 hr2 => ?_
    (with_reducible refine w_nil ?_)
    refine w_kLst (by show 2 ≤ sizeLine; decide) fun L H3 nL s3 hL => ?_
    skip
    exact q1 _ L H3 rfl ⟨[r1, r2], hL, .cons (s3 _ _ (s2 _ _ hr1)) (.cons (s3 _ _ hr2) .nil)⟩ ((s1.trans s2).trans s3)
  rw [if_neg h1] at q0 q1
  refine w_decF h1 ?_
  (with_reducible refine w_next ?_)
  (with_reducible refine w_seq ?_)
  (with_reducible refine w_ifS ?_)
  (with_reducible refine w_test ?_)
  (with_reducible refine w_op ?_)
  ((with_reducible refine' w_var ?hv ?_); (case hv => exact rfl))
  (with_reducible refine w_c ?_)
  (with_reducible refine w_eqS ?_)
  (with_reducible refine w_bl ?_)
  by_cases h2 : o = "sub"
  · rw [if_pos h2] at q1
    refine w_decT h2 ?_
    (with_reducible refine w_ret ?_)
    (with_reducible refine w_lst ?_)
    (with_reducible refine w_cons ?_)
    (with_reducible refine w_tup ?_)
    (with_reducible refine w_cons ?_)
    ((with_reducible refine' w_var ?hv ?_); (case hv => exact rfl))
    (with_reducible refine w_cons ?_)
    (with_reducible refine w_c ?_)
    (with_reducible refine w_nil ?_)
    refine w_kTup (by show 2 ≤ sizeLine; decide) fun r1 H1 nr1 s1 hr1 => ?_
    (with_reducible refine w_cons ?_)
    (with_reducible refine w_tup ?_)
    (with_reducible refine w_cons ?_)
    ((with_reducible refine' w_var ?hv ?_); (case hv => exact rfl))
    (with_reducible refine w_cons ?_)
    (with_reducible refine w_c ?_)
    (with_reducible refine w_nil ?_)
    refine w_kTup (by show 2 ≤ sizeLine; decide) fun r2 H2 nr2 s2 hr2 => ?_
    (with_reducible refine w_nil ?_)
    refine w_kLst (by show 2 ≤ sizeLine; decide) fun L H3 nL s3 hL => ?_
    skip
    exact q1 _ L H3 rfl ⟨[r1, r2], hL, .cons (s3 _ _ (s2 _ _ hr1)) (.cons (s3 _ _ hr2) .nil)⟩ ((s1.trans s2).trans s3)
  rw [if_neg h2] at q0 q1
  refine w_decF h2 ?_
  (with_reducible refine w_next ?_)
  (with_reducible refine w_seq ?_)
  (with_reducible refine w_par ?_)
  (with_reducible refine w_cons ?_)
  (with_reducible refine w_md ?_)
  ((with_reducible refine' w_var ?hv ?_); (case hv => exact rfl))
  refine w_kMd ho rfl ?_
  (with_reducible refine w_cons ?_)
  ((with_reducible refine' w_var ?hv ?_); (case hv => exact rfl))
  (with_reducible refine w_nil ?_)
  refine ⟨p, l, d, ns, a, rfl, hP, ha, ?_⟩
  (with_reducible refine w_cons ?_)
  (with_reducible refine w_md ?_)
  ((with_reducible refine' w_var ?hv ?_); (case hv => exact rfl))
  refine w_kMd ho rfl ?_
  (with_reducible refine w_cons ?_)
  ((with_reducible refine' w_var ?hv ?_); (case hv => exact rfl))
  (with_reducible refine w_nil ?_)
  refine ⟨p, l, d, ns, b, rfl, hP, hb, ?_⟩
  (with_reducible refine w_nil ?_)
  refine ⟨_, _, rfl, ?_⟩
  (with_reducible refine w_seq ?_)
  (with_reducible refine w_ifS ?_)
  (with_reducible refine w_andT ?_)
  (with_reducible refine w_test ?_)
  (with_reducible refine w_op ?_)
  ((with_reducible refine' w_var ?hv ?_); (case hv => exact rfl))
  (with_reducible refine w_c ?_)
  (with_reducible refine w_eqS ?_)
  (with_reducible refine w_bl ?_)
  by_cases h3 : o = "mul"
  · rw [if_pos h3] at q0 q1
    refine w_decT h3 ?_
    (with_reducible refine w_test ?_)
    (with_reducible refine w_op ?_)
    ((with_reducible refine' w_var ?hv ?_); (case hv => exact rfl))
    (with_reducible refine w_c ?_)
    refine ⟨rfl, ?_⟩
    (with_reducible refine w_bl ?_)
    cases hy : wordOf ns b with
    | some v =>
      rw [hy] at q1
      refine w_ndecT (by intro z; cases z) ?_
      (with_reducible refine w_ret ?_)
      (with_reducible refine w_lst ?_)
      (with_reducible refine w_cons ?_)
      (with_reducible refine w_tup ?_)
      (with_reducible refine w_cons ?_)
      ((with_reducible refine' w_var ?hv ?_); (case hv => exact rfl))
      (with_reducible refine w_cons ?_)
      ((with_reducible refine' w_var ?hv ?_); (case hv => exact rfl))
      (with_reducible refine w_nil ?_)
      refine w_kTup (by show 2 ≤ sizeLine; decide) fun r1 H1 nr1 s1 hr1 => ?_
      (with_reducible refine w_nil ?_)
      refine w_kLst (by show 1 ≤ sizeLine; decide) fun L H3 nL s3 hL => ?_
      skip
      exact q1 _ L H3 rfl ⟨[r1], hL, .cons (s3 _ _ hr1) .nil⟩ (s1.trans s3)
    | none =>
      rw [hy] at q0 q1
      refine w_ndecF rfl ?_
      (with_reducible refine w_next ?_)
      (with_reducible refine w_seq ?_)
      (with_reducible refine w_ifS ?_)
      (with_reducible refine w_andT ?_)
      (with_reducible refine w_test ?_)
      (with_reducible refine w_op ?_)
      ((with_reducible refine' w_var ?hv ?_); (case hv => exact rfl))
      (with_reducible refine w_c ?_)
      (with_reducible refine w_eqS ?_)
      (with_reducible refine w_bl ?_)
      refine w_decT h3 ?_
      (with_reducible refine w_test ?_)
      (with_reducible refine w_op ?_)
      ((with_reducible refine' w_var ?hv ?_); (case hv => exact rfl))
      (with_reducible refine w_c ?_)
      refine ⟨rfl, ?_⟩
      (with_reducible refine w_bl ?_)
      cases hx : wordOf ns a with
      | some v =>
        rw [hx] at q1
        refine w_ndecT (by intro z; cases z) ?_
        (with_reducible refine w_ret ?_)
        (with_reducible refine w_lst ?_)
        (with_reducible refine w_cons ?_)
        (with_reducible refine w_tup ?_)
        (with_reducible refine w_cons ?_)
        ((with_reducible refine' w_var ?hv ?_); (case hv => exact rfl))
        (with_reducible refine w_cons ?_)
        ((with_reducible refine' w_var ?hv ?_); (case hv => exact rfl))
        (with_reducible refine w_nil ?_)
        refine w_kTup (by show 2 ≤ sizeLine; decide) fun r1 H1 nr1 s1 hr1 => ?_
        (with_reducible refine w_nil ?_)
        refine w_kLst (by show 1 ≤ sizeLine; decide) fun L H3 nL s3 hL => ?_
        skip
        exact q1 _ L H3 rfl ⟨[r1], hL, .cons (s3 _ _ hr1) .nil⟩ (s1.trans s3)
      | none =>
        rw [hx] at q0
        refine w_ndecF rfl ?_
        (with_reducible refine w_next ?_)
        (with_reducible refine w_seq ?_)
        (with_reducible refine w_ifS ?_)
        (with_reducible refine w_andT ?_)
        (with_reducible refine w_test ?_)
        (with_reducible refine w_op ?_)
        ((with_reducible refine' w_var ?hv ?_); (case hv => exact rfl))
        (with_reducible refine w_c ?_)
        (with_reducible refine w_eqS ?_)
        (with_reducible refine w_bl ?_)
        refine w_decF (by rw [h3]; decide) ?_
        (with_reducible refine w_itF ?_)
        (with_reducible refine w_next ?_)
        (with_reducible refine w_ret ?_)
        (with_reducible refine w_c ?_)
        exact q0 rfl
  rw [if_neg h3] at q0 q1
  refine w_decF h3 ?_
  (with_reducible refine w_itF ?_)
  (with_reducible refine w_next ?_)
  (with_reducible refine w_seq ?_)
  (with_reducible refine w_ifS ?_)
  (with_reducible refine w_andT ?_)
  (with_reducible refine w_test ?_)
  (with_reducible refine w_op ?_)
  ((with_reducible refine' w_var ?hv ?_); (case hv => exact rfl))
  (with_reducible refine w_c ?_)
  (with_reducible refine w_eqS ?_)
  (with_reducible refine w_bl ?_)
  refine w_decF h3 ?_
  (with_reducible refine w_itF ?_)
  (with_reducible refine w_next ?_)
  (with_reducible refine w_seq ?_)
  (with_reducible refine w_ifS ?_)
  (with_reducible refine w_andT ?_)
  (with_reducible refine w_test ?_)
  (with_reducible refine w_op ?_)
  ((with_reducible refine' w_var ?hv ?_); (case hv => exact rfl))
  (with_reducible refine w_c ?_)
  (with_reducible refine w_eqS ?_)
  (with_reducible refine w_bl ?_)
  by_cases h4 : o = "shl"
  · rw [if_pos h4] at q0 q1
    refine w_decT h4 ?_
    (with_reducible refine w_test ?_)
    (with_reducible refine w_op ?_)
    ((with_reducible refine' w_var ?hv ?_); (case hv => exact rfl))
    (with_reducible refine w_c ?_)
    refine ⟨rfl, ?_⟩
    (with_reducible refine w_bl ?_)
    cases hy : wordOf ns b with
    | some v =>
      rw [hy] at q1
      refine w_ndecT (by intro z; cases z) ?_
      (with_reducible refine w_ret ?_)
      (with_reducible refine w_lst ?_)
      (with_reducible refine w_cons ?_)
      (with_reducible refine w_tup ?_)
      (with_reducible refine w_cons ?_)
      ((with_reducible refine' w_var ?hv ?_); (case hv => exact rfl))
      (with_reducible refine w_cons ?_)
      (with_reducible refine w_op ?_)
      (with_reducible refine w_c ?_)
      (with_reducible refine w_op ?_)
      ((with_reducible refine' w_var ?hv ?_); (case hv => exact rfl))
      (with_reducible refine w_c ?_)
      show rI0 _ (.int v) _ _ _
      (with_reducible refine w_I0 ?_)
      rw [bitAnd_m5]
      refine w_I ⟨by omega, by omega, by decide⟩ ?_
      (with_reducible refine w_nil ?_)
      refine w_kTup (by show 2 ≤ sizeLine; decide) fun r1 H1 nr1 s1 hr1 => ?_
      (with_reducible refine w_nil ?_)
      refine w_kLst (by show 1 ≤ sizeLine; decide) fun L H3 nL s3 hL => ?_
      skip
      rw [Int.one_mul] at hr1
      exact q1 _ L H3 rfl ⟨[r1], hL, .cons (s3 _ _ hr1) .nil⟩ (s1.trans s3)
    | none =>
      rw [hy] at q0
      refine w_ndecF rfl ?_
      (with_reducible refine w_next ?_)
      (with_reducible refine w_ret ?_)
      (with_reducible refine w_c ?_)
      exact q0 rfl
  rw [if_neg h4] at q0
  refine w_decF h4 ?_
  (with_reducible refine w_itF ?_)
  (with_reducible refine w_next ?_)
  (with_reducible refine w_ret ?_)
  (with_reducible refine w_c ?_)
  exact q0 rfl
end
end K30


open PySem.W
namespace K30
def kDG (Q : VK) : V → V → Hp → Prop := fun x y H2 => ∃ a v, x = .ref a ∧ DGet H2 a y (some v) ∧ Q v H2
theorem w_dget {td ty : TE} {σ : L2.St} {H : Hp} {Q : VK} (q : td σ H fun x H1 => ty σ H1 fun y H2 => kDG Q x y H2) : tDGet td ty σ H Q := q
def kDP (D : Ends) (σ : L2.St) (v : V) : V → V → Hp → Prop := fun x y H3 => ∃ a H4, x = .ref a ∧ DPut H3 a y v H4 ∧ D.nx σ H4
theorem w_dput {td ty tv : TE} {D : Ends} {σ : L2.St} {H : Hp} (q : tv σ H fun v H1 => td σ H1 fun x H2 => ty σ H2 fun y H3 => kDP D σ v x y H3) : sDPut td ty tv D σ H := q
local macro_rules | `(tactic| walk_at "w1") => `(tactic| first
  | (with_reducible refine w_dget ?_)
  | (with_reducible refine w_dput ?_)
  | (with_reducible refine w_fld ?_)
  | (with_reducible refine w_fldS ?_)
  | (with_reducible refine w_md ?_)
  | (with_reducible refine w_getN ?_)
  | (with_reducible refine w_par ?_)
  | (with_reducible refine w_dget2 ?_)
  | ((with_reducible refine' w_kFld ?hT ?hh ?hm ?hl ?_); (case hT => assumption); (case hh => assumption); (case hm => decide); (case hl => exact rfl)))
theorem sc_Pool_total : FnScope ["self", "base", "parts", "factors", "part", "factor", "more", "pairs", "inner", "times", "left"] ["self", "base", "parts"] (defScope s_Pool_total) := ⟨rfl, rfl, rfl, by decide +kernel, rfl, by decide +kernel, by decide +kernel⟩
def spTotal (P : Program) (w : World) (C : Addr) : Sp := fun vs H Q _ => ∃ (p l d : Addr) (ns : List Nd) (c : Int) (L : Addr) (ps : List (Nat × Int)), vs = [.ref p, .int c, .ref L] ∧ PoAt P w C H p l d ns ∧ ns.length < 100000 ∧ PlAt H L ps ∧ ps.length ≤ 12 ∧ (∀ q ∈ ps, q.1 < ns.length ∧ W32 q.2) ∧ W32 c ∧
  (12 < (tS ns ps).length → ∀ H', PoAt P w C H' p l d ns → Same H H' → Q .non H') ∧
  ((tS ns ps).length ≤ 12 → ∀ H', PoAt P w C H' p l d (sumR ns ((c + tB ns ps) % M32) (tS ns ps)).1 → PFr l d H H' → Q (.int ((sumR ns ((c + tB ns ps) % M32) (tS ns ps)).2 : Nat)) H')
/-- the dict of the factors of L -/
def FcAt (H : Hp) (fd : Addr) (L : List (Nat × Int)) : Prop := ∃ ks : List Nat, ks.Nodup ∧ (∀ k, k ∈ ks ↔ ∃ q ∈ L, q.1 = k) ∧ ks.length ≤ L.length ∧ H fd = some (.dK (fD ks fun k => coef L k % M32))
theorem PoAt.but {P : Program} {w : World} {C : Addr} {H H' : Hp} {p l d : Addr} {ns : List Nd} {x : Addr} {kvs : List (Key × V)} (h : PoAt P w C H p l d ns) (b : But x H H') (hx : H x = some (.dK kvs)) : PoAt P w C H' p l d ns := by
  obtain ⟨dx, ho⟩ := h.ob
  obtain ⟨as, es, h1, h2, h3, h4, h5⟩ := h.li
  have ne : ∀ {y : Addr} {o : HO}, H y = some o → (∀ k, o ≠ .dK k) → y ≠ x := fun e n => ne_of e hx (n _)
  have tp : Tps H H' := fun a xs e => b _ _ (ne e (by intro k z; cases z)) e
  exact ⟨h.wf, ⟨dx, b _ _ (ne ho (by intro k z; cases z)) ho⟩, as, es, b _ _ (ne h1 (by intro k z; cases z)) h1, b _ _ (ne h2 (by intro k z; cases z)) h2, h3, h4, fun j a y e1 e2 => ⟨(h5 j a y e1 e2).1.tps tp, (h5 j a y e1 e2).2⟩⟩
theorem w_kDGI {p : Addr} {kvs : List (Key × V)} {z : Int} {v : V} {H : Hp} {Q : VK} (h : H p = some (.dK kvs)) (e : valV kvs (kI z) = some v) (q : Q v H) : kDG Q (.ref p) (.int z) H := ⟨p, v, rfl, by have := DGet.i (k := z) h; rw [e] at this; exact this, q⟩
def pF (f : Nat → Int) (l : List Nat) : List (Nat × Int) := (l.filter fun k => f k ≠ 0).map fun k => (k, f k)
theorem pF_snoc0 {f : Nat → Int} {l : List Nat} {k : Nat} (h : f k = 0) : pF f (l ++ [k]) = pF f l := by
  unfold pF
  rw [List.filter_append, List.filter_cons_of_neg (by simp [h]), List.filter_nil, List.append_nil]
theorem pF_snoc1 {f : Nat → Int} {l : List Nat} {k : Nat} (h : ¬ f k = 0) : pF f (l ++ [k]) = pF f l ++ [(k, f k)] := by
  unfold pF
  rw [List.filter_append, List.filter_cons_of_pos (by simp [h]), List.filter_nil, List.map_append]
  rfl
theorem asc_ext : ∀ {l m : List Nat}, l.Pairwise (· < ·) → m.Pairwise (· < ·) → (∀ k, k ∈ l ↔ k ∈ m) → l = m
  | [], [], _, _, _ => rfl
  | [], b :: m, _, _, h => by have := (h b).mpr (List.mem_cons_self ..); cases this
  | a :: l, [], _, _, h => by have := (h a).mp (List.mem_cons_self ..); cases this
  | a :: l, b :: m, hl, hm, h => by
    rw [List.pairwise_cons] at hl hm
    have e : a = b := by
      rcases List.mem_cons.mp ((h a).mp (List.mem_cons_self ..)) with e | m1
      · exact e
      · rcases List.mem_cons.mp ((h b).mpr (List.mem_cons_self ..)) with e | m2
        · exact e.symm
        · have := hl.1 b m2; have := hm.1 a m1; omega
    subst e
    rw [asc_ext hl.2 hm.2 fun k => ?_]
    constructor
    · intro hk
      rcases List.mem_cons.mp ((h k).mp (List.mem_cons_of_mem _ hk)) with e | q
      · have := hl.1 k hk; omega
      · exact q
    · intro hk
      rcases List.mem_cons.mp ((h k).mpr (List.mem_cons_of_mem _ hk)) with e | q
      · have := hm.1 k hk; omega
      · exact q
theorem asc_of {l : List Nat} (nd : l.Nodup) (h : (l.map fun (k : Nat) => (k : Int)).Pairwise (· ≤ ·)) : l.Pairwise (· < ·) := by
  rw [List.pairwise_map] at h
  exact (h.and nd).imp fun {a b} q => by have := q.1; have := q.2; omega
theorem FcAt.of {H H' : Hp} {fd : Addr} {L : List (Nat × Int)} (h : FcAt H fd L) (s : Same H H') : FcAt H' fd L := by
  obtain ⟨ks, a, b, c, e⟩ := h
  exact ⟨ks, a, b, c, s _ _ e⟩
theorem coef_no {ks : List Nat} {L : List (Nat × Int)} (h : ∀ k, k ∈ ks ↔ ∃ q ∈ L, q.1 = k) {k : Nat} (n : k ∉ ks) : coef L k = 0 := coef_zero fun q hq e => n ((h k).mpr ⟨q, hq, e⟩)
theorem prd_at {α β : Type} {F : α → β → Prop} {as : List α} {bs : List β} (h : Paired F as bs) {i : Nat} {a : α} {b : β} (ha : as[i]? = some a) (hb : bs[i]? = some b) : F a b := by
  induction h generalizing i with
  | nil => simp at ha
  | cons e _ ih =>
    cases i with
    | zero => simp at ha hb; subst ha; subst hb; exact e
    | succ i => exact ih (by simpa using ha) (by simpa using hb)
theorem lin_w32 {ns : List Nd} (W : PWf ns) {t : Nat} (ht : t < ns.length) : W32 (lin ns t).1 ∧ (∀ q ∈ (lin ns t).2, W32 q.2) ∧ (lin ns t).2.length ≤ 12 := by
  obtain ⟨x, hx⟩ : ∃ x, ns[t]? = some x := ⟨_, List.getElem?_eq_getElem ht⟩
  have ok := W.ok t x hx
  rw [lin_of hx]
  have one : W32 1 := ⟨by decide, by decide⟩
  cases x with
  | word v => exact ⟨ok, fun q h => (by cases h), by show 0 ≤ 12; decide⟩
  | leaf k n => exact ⟨w0, fun q h => by obtain rfl := List.mem_singleton.mp h; exact one, by show 1 ≤ 12; decide⟩
  | op o s u => exact ⟨w0, fun q h => by obtain rfl := List.mem_singleton.mp h; exact one, by show 1 ≤ 12; decide⟩
  | sum c ps => exact ⟨ok.1.1, fun q h => ⟨by have := (ok.1.2.2.1 q h).1; omega, (ok.1.2.2.1 q h).2⟩, ok.1.2.2.2.2.2⟩
theorem tL_snoc (ns : List Nd) (ps : List (Nat × Int)) (q : Nat × Int) : tL ns (ps ++ [q]) = tL ns ps ++ (lin ns q.1).2.map fun z => (z.1, z.2 * q.2) := by unfold tL; rw [List.flatMap_append]; simp
theorem tB_snoc (ns : List Nd) (ps : List (Nat × Int)) (q : Nat × Int) : tB ns (ps ++ [q]) = tB ns ps + (lin ns q.1).1 * q.2 := by unfold tB; rw [List.map_append, List.sum_append]; simp
theorem tL_len {ns : List Nd} (W : PWf ns) : ∀ ps : List (Nat × Int), (∀ q ∈ ps, q.1 < ns.length) → (tL ns ps).length ≤ 12 * ps.length
  | [], _ => Nat.le_refl _
  | q :: r, h => by
    have e : tL ns (q :: r) = ((lin ns q.1).2.map fun z => (z.1, z.2 * q.2)) ++ tL ns r := rfl
    have := tL_len W r fun z hz => h z (List.mem_cons_of_mem _ hz)
    have l2 := (lin_w32 W (h q (List.mem_cons_self ..))).2.2
    rw [e, List.length_append, List.length_map, List.length_cons]
    omega
theorem pd_snoc {α β : Type} {F : α → β → Prop} {as : List α} {bs : List β} (h : Paired F as bs) {a : α} {b : β} (e : F a b) : Paired F (as ++ [a]) (bs ++ [b]) := by
  induction h with
  | nil => exact .cons e .nil
  | cons x _ ih => exact .cons x ih
/-- one more pair -/
theorem FcAt.add {ks : List Nat} {L : List (Nat × Int)} (nd : ks.Nodup) (hk : ∀ k, k ∈ ks ↔ ∃ q ∈ L, q.1 = k) (hl : ks.length ≤ L.length) {H : Hp} {fd : Addr} {k : Nat} {v : Int}
    (h : H fd = some (.dK (putK (fD ks fun k => coef L k % M32) (kI (k : Int)) (.int ((coef L k % M32 + v) % M32))))) : FcAt H fd (L ++ [(k, v)]) := by
  have c1 : ∀ j, coef (L ++ [(k, v)]) j = coef L j + if k = j then v else 0 := fun j => by rw [coef_app, coef_cons, coef_nil, Int.add_zero]
  rw [putK_fD] at h
  refine ⟨if k ∈ ks then ks else ks ++ [k], ?_, fun j => ?_, ?_, ?_⟩
  · split
    · exact nd
    · rename_i n
      refine List.nodup_append.mpr ⟨nd, by simp, fun a ha b hb e => ?_⟩
      rw [List.mem_singleton] at hb
      subst hb; subst e
      exact n ha
  · have : (j ∈ if k ∈ ks then ks else ks ++ [k]) ↔ j ∈ ks ∨ j = k := by
      split
      · rename_i m
        exact ⟨.inl, fun z => z.elim id fun e => e ▸ m⟩
      · rw [List.mem_append, List.mem_singleton]
    rw [this, hk j]
    constructor
    · rintro (⟨q, hq, e⟩ | rfl)
      · exact ⟨q, List.mem_append_left _ hq, e⟩
      · exact ⟨_, List.mem_append_right _ (List.mem_singleton_self _), rfl⟩
    · rintro ⟨q, hq, e⟩
      rcases List.mem_append.mp hq with m | m
      · exact .inl ⟨q, m, e⟩
      · rw [List.mem_singleton] at m
        subst m
        exact .inr e.symm
  · rw [List.length_append]
    split
    · omega
    · rw [List.length_append]; simp only [List.length_singleton]; omega
  · rw [h]
    have : (fun j => if j = k then (coef L k % M32 + v) % M32 else coef L j % M32) = fun j => coef (L ++ [(k, v)]) j % M32 := by
      funext j
      rw [c1]
      by_cases e : j = k
      · subst e
        rw [if_pos rfl, if_pos rfl, Int.emod_add_emod]
      · rw [if_neg e, if_neg (Ne.symm e), Int.add_zero]
    rw [this]
section
variable {P : Program} {w : World} {K : PySem.W.Frag} {mg : Str → Option Value} {base : Heap} {C_Pool : Addr}
theorem ok_Pool_total (b_sorted : mg "sorted" = none) (b_tuple : mg "tuple" = none) (b_len : mg "len" = none) (g_MASK : GV mg "MASK" (.int 4294967295)) (g_MOST_TERMS : GV mg "MOST_TERMS" (.int 12)) (T_Pool : Ob K C_Pool poN) (m_Pool_linear : Md P w K mg base 1 C_Pool "linear" (spLinear P w C_Pool)) (m_Pool_sum_of : Md P w K mg base 3 C_Pool "sum_of" (spSumR P w C_Pool)) (Z : StM K C_Pool "total" "Pool.total" s_Pool_total ["self", "base", "parts"]) : Md P w K mg base 4 C_Pool "total" (spTotal P w C_Pool) := by
  refine Z.md sc_Pool_total (fun vs H Q E h => by obtain ⟨p, l, d, ns, c, L, ps, rfl, _⟩ := h; rfl) (fun f cdv A outer s H vs Q E hr h => ?_)
  obtain ⟨p, l, d, ns, c, L, ps, rfl, hP, hn, hL, hps, hq, hc, q0, q1⟩ := h
  have hu := hu_of hr
  refine ⟨_, (pss_cons (ps_set (i := 3) sc_Pool_total.nd rfl (.inr rfl) pe_dnewK)
      (pss_cons (ps_for PassesOwn.never rfl (pi_list (pv 2)) (pg_tup rfl (pgs_cons (pg_name (i := 4) sc_Pool_total.nd rfl (.inl rfl)) (pgs_cons (pg_name (i := 5) sc_Pool_total.nd rfl (.inl rfl)) pgs_nil)))
      (pss_cons (ps_asg (pe_md T_Pool.cl m_Pool_linear hr (by first | decide | omega) (pv 0) (pa_cons (pv 4) pa_nil)) (pg_tup rfl (pgs_cons (pg_name (i := 6) sc_Pool_total.nd rfl (.inl rfl)) (pgs_cons (pg_name (i := 7) sc_Pool_total.nd rfl (.inl rfl)) pgs_nil))))
      (pss_cons (ps_aug (i := 1) sc_Pool_total.nd rfl (.inl rfl) (pe_op op_mul (pv 6) (pv 5)) ip_add)
      (pss_one (ps_for PassesOwn.never rfl (pi_tup (pv 7)) (pg_tup rfl (pgs_cons (pg_name (i := 8) sc_Pool_total.nd rfl (.inl rfl)) (pgs_cons (pg_name (i := 9) sc_Pool_total.nd rfl (.inl rfl)) pgs_nil)))
      (pss_one (ps_dput hu (pv 3) (pv 8) (pe_op op_and (pe_op op_add (pe_dget2 hu (pv 3) (pv 8) pe_int (by first | exact ⟨rfl, rfl, rfl, rfl⟩ | exact ⟨by rfl, by rfl, by rfl, by rfl⟩)) (pe_op op_mul (pv 9) (pv 5))) (pe_gv (by rfl) g_MASK)) rfl)))))))
      (pss_cons (ps_set (i := 10) sc_Pool_total.nd rfl (.inl rfl) (pe_callTy call_tupQ (by rfl) b_tuple (by decide +kernel) (pa_cons (pe_lc (own := [("inner", 8)]) rfl sc_Pool_total.nd (pi_list (pe_callB (cr_sortedDA rfl) (by rfl) b_sorted (by decide +kernel) (pa_cons (pv 3) pa_nil))) (blkOk_by (own := [("inner", 8)]) (N := ["self", "base", "parts", "factors", "part", "factor", "more", "pairs", "inner", "times", "left"]) (sc := (defScope s_Pool_total)) (by decide +kernel)) (fun _ _ _ _ _ => (pg_name (i := 8) sc_Pool_total.nd rfl (.inl rfl))) (fun _ _ _ _ _ => (pts_one (pt_cmpR op_ne (pe_dget hu (pv 3) (pv 8) (fun _ _ => rfl)) pe_int (nomark _)))) (fun _ _ _ _ _ => (pe_tup (pa_cons (pv 8) (pa_cons (pe_dget hu (pv 3) (pv 8) (fun _ _ => rfl)) pa_nil))))) pa_nil)))
      (pss_one (ps_ret (pe_ifExp (pt_cmpR op_gt (pe_callB call_lenQ (by rfl) b_len PySem.boot_len (pa_cons (pv 10) pa_nil)) (pe_gv (by rfl) g_MOST_TERMS) (nomark _)) pe_non (pe_md T_Pool.cl m_Pool_sum_of hr (by first | decide | omega) (pv 0) (pa_cons (pe_op op_and (pv 1) (pe_gv (by rfl) g_MASK)) (pa_cons (pv 10) pa_nil))))))))), ?_⟩
  obtain ⟨rs, hrs, pr⟩ := id hL
  (with_reducible refine w_seq ?_)
  (with_reducible refine w_asg ?_)
  refine w_dnewK fun fd H1 nfd s1 hfd => ?_
  (with_reducible refine w_name ?_)
  (with_reducible refine w_seq ?_)
  (with_reducible refine w_for ?_)
  (with_reducible refine w_iL ?_)
  ((with_reducible refine' w_var ?hv ?_); (case hv => exact rfl))
  have hP1 := hP.same s1
  refine w_forL (rs.map V.ref) (fun i σ' H' => PoAt P w C_Pool H' p l d ns ∧ H' L = some (.lst (rs.map V.ref)) ∧ FcAt H' fd (tL ns (ps.take i)) ∧ But fd H1 H' ∧ ∃ a4 a5 a6 a7 a8 a9, σ' = [some (.ref p), some (.int (c + tB ns (ps.take i))), some (.ref L), some (.ref fd), a4, a5, a6, a7, a8, a9, none]) (.of (s1 _ _ hrs)) ?_ (fun i σ' H' _ h => .of h.2.1) (fun i x σ' H' hx h => ?_) (fun σ' H' h => ?_)
  · refine ⟨hP1, s1 _ _ hrs, ⟨[], List.nodup_nil, fun k => ⟨fun z => (by cases z), fun z => (by obtain ⟨q, m, _⟩ := z; cases m)⟩, Nat.le_refl _, hfd⟩, But.refl _ _, none, none, none, none, none, none, ?_⟩
    rw [show c + tB ns (ps.take 0) = c from Int.add_zero c]
    rfl
  · obtain ⟨hP', hL', hF, bf, a4, a5, a6, a7, a8, a9, rfl⟩ := h
    rw [List.getElem?_map] at hx
    obtain ⟨r, er, rfl⟩ := Option.map_eq_some_iff.mp hx
    have li : i < ps.length := by have := (List.getElem?_eq_some_iff.mp er).1; rw [pr.length] at this; exact this
    obtain ⟨⟨t, fa⟩, et⟩ : ∃ q, ps[i]? = some q := ⟨_, List.getElem?_eq_getElem li⟩
    have hr1 : H r = some (.tup [.int (t : Int), .int fa]) := prd_at pr er et
    have hr2 : H' r = some (.tup [.int (t : Int), .int fa]) := bf _ _ (ne_of (s1 _ _ hr1) hfd (by intro z; cases z)) (s1 _ _ hr1)
    obtain ⟨lt, wf⟩ : t < ns.length ∧ W32 fa := hq (t, fa) (List.mem_of_getElem? et)
    obtain ⟨dx, ho'⟩ := hP'.ob
    have etk : ps.take (i + 1) = ps.take i ++ [(t, fa)] := take_more et
    refine w_gTup hr2 rfl ?_
    (with_reducible refine w_gCons ?_)
    (with_reducible refine w_name ?_)
    (with_reducible refine w_gCons ?_)
    (with_reducible refine w_name ?_)
    (with_reducible refine w_gNil ?_)
    (with_reducible refine w_seq ?_)
    (with_reducible refine w_asg ?_)
    (with_reducible refine w_md ?_)
    ((with_reducible refine' w_var ?hv ?_); (case hv => exact rfl))
    refine w_kMd ho' rfl ?_
    (with_reducible refine w_cons ?_)
    ((with_reducible refine' w_var ?hv ?_); (case hv => exact rfl))
    (with_reducible refine w_nil ?_)
    refine ⟨p, l, d, ns, t, rfl, hP', lt, fun r3 b H2 hr3 hb s2 => ?_⟩
    refine w_gTup hr3 rfl ?_
    (with_reducible refine w_gCons ?_)
    (with_reducible refine w_name ?_)
    (with_reducible refine w_gCons ?_)
    (with_reducible refine w_name ?_)
    (with_reducible refine w_gNil ?_)
    (with_reducible refine w_seq ?_)
    ((with_reducible refine' w_aug ?hh ?_); (case hh => exact rfl))
    (with_reducible refine w_op ?_)
    ((with_reducible refine' w_var ?hv ?_); (case hv => exact rfl))
    ((with_reducible refine' w_var ?hv ?_); (case hv => exact rfl))
    obtain ⟨wl, wq, ll⟩ := lin_w32 hP'.wf lt
    have wl1 := wl.1
    have wl2 := wl.2
    have wf1 := wf.1
    have wf2 := wf.2
    refine w_I (by dsimp only [CMul]; omega) ?_
    (with_reducible refine w_ipI ?_)
    (with_reducible refine w_for ?_)
    (with_reducible refine w_iT ?_)
    ((with_reducible refine' w_var ?hv ?_); (case hv => exact rfl))
    obtain ⟨rs2, hb2, pr2⟩ := hb
    have hP2 := hP'.same s2
    have hL2 := s2 _ _ hL'
    have hF2 := hF.of s2
    have b2 : But fd H1 H2 := bf.trans (.of s2)
    refine w_forT (rs2.map V.ref) (fun j σ' H' => PoAt P w C_Pool H' p l d ns ∧ H' L = some (.lst (rs.map V.ref)) ∧ FcAt H' fd (tL ns (ps.take i) ++ ((lin ns t).2.take j).map fun z => (z.1, z.2 * fa)) ∧ But fd H1 H' ∧ H' b = some (.tup (rs2.map V.ref)) ∧ Paired (fun (r : Addr) (p : Nat × Int) => H' r = some (.tup [.int (p.1 : Int), .int p.2])) rs2 (lin ns t).2 ∧
      ∃ a4 a6 a7 a8 a9, σ' = [some (.ref p), some (.int (c + tB ns (ps.take i) + (lin ns t).1 * fa)), some (.ref L), some (.ref fd), a4, some (.int fa), a6, a7, a8, a9, none]) (.of hb2) ?_ (fun j σ' H' _ h => .of h.2.2.2.2.1) (fun j x σ' H' hx h => ?_) (fun σ' H' h => ?_)
    · refine ⟨hP2, hL2, ?_, b2, hb2, pr2, _, _, _, _, _, rfl⟩
      rw [List.take_zero, List.map_nil, List.append_nil]
      exact hF2
    · obtain ⟨hP3, hL3, hF3, b3, hb3, pr3, a4, a6, a7, a8, a9, rfl⟩ := h
      rw [List.getElem?_map] at hx
      obtain ⟨r4, er4, rfl⟩ := Option.map_eq_some_iff.mp hx
      have lj : j < (lin ns t).2.length := by have := (List.getElem?_eq_some_iff.mp er4).1; rw [pr3.length] at this; exact this
      obtain ⟨⟨u, tm⟩, eu⟩ : ∃ q, (lin ns t).2[j]? = some q := ⟨_, List.getElem?_eq_getElem lj⟩
      have hr4 := prd_at pr3 er4 eu
      obtain ⟨ks, nd, hk, hl, hd3⟩ := hF3
      have wt := wq (u, tm) (List.mem_of_getElem? eu)
      have wt1 := wt.1
      have wt2 := wt.2
      refine w_gTup hr4 rfl ?_
      (with_reducible refine w_gCons ?_)
      (with_reducible refine w_name ?_)
      (with_reducible refine w_gCons ?_)
      (with_reducible refine w_name ?_)
      (with_reducible refine w_gNil ?_)
      (with_reducible refine w_dput ?_)
      (with_reducible refine w_op ?_)
      (with_reducible refine w_op ?_)
      (with_reducible refine w_dget2 ?_)
      ((with_reducible refine' w_var ?hv ?_); (case hv => exact rfl))
      refine ⟨fd, rfl, .inl ⟨_, .of hd3⟩, ?_⟩
      ((with_reducible refine' w_var ?hv ?_); (case hv => exact rfl))
      (with_reducible refine w_c ?_)
      refine ⟨_, DGet.i hd3, ?_⟩
      rw [show kI ((u : Nat) : Int) = kI (u : Int) from rfl, valV_fD]
      have gv : (if u ∈ ks then some (V.int (coef (tL ns (ps.take i) ++ ((lin ns t).2.take j).map fun z => (z.1, z.2 * fa)) u % M32)) else none).getD (.int 0) = .int (coef (tL ns (ps.take i) ++ ((lin ns t).2.take j).map fun z => (z.1, z.2 * fa)) u % M32) := by
        by_cases m : u ∈ ks
        · rw [if_pos m]; rfl
        · rw [if_neg m, coef_no hk m]; rfl
      rw [gv]
      (with_reducible refine w_op ?_)
      ((with_reducible refine' w_var ?hv ?_); (case hv => exact rfl))
      ((with_reducible refine' w_var ?hv ?_); (case hv => exact rfl))
      ((with_reducible refine w_I ?hc ?_); (case hc => walk_at "side"))
      (with_reducible refine w_I0 ?_)
      (with_reducible refine w_c ?_)
      (with_reducible refine w_I0 ?_)
      ((with_reducible refine' w_var ?hv ?_); (case hv => exact rfl))
      ((with_reducible refine' w_var ?hv ?_); (case hv => exact rfl))
      rw [bitAnd_m32]
      have kl : (fD ks fun k => coef (tL ns (ps.take i) ++ ((lin ns t).2.take j).map fun z => (z.1, z.2 * fa)) k % M32).length < 1000 := by
        unfold fD
        rw [List.length_map]
        have := tL_len hP3.wf (ps.take i) fun z hz => (hq z (List.mem_of_mem_take hz)).1
        rw [List.length_append, List.length_map] at hl
        have t1 : (ps.take i).length ≤ 12 := by rw [List.length_take]; omega
        have t2 : ((lin ns t).2.take j).length ≤ 12 := by rw [List.length_take]; omega
        omega
      refine Co.w_kDPi hd3 kl rfl fun H5 hd5 b5 => ?_
      have nfl : ∀ {x : Addr} {o : HO}, H' x = some o → (∀ kvs, o ≠ .dK kvs) → x ≠ fd := fun e n => ne_of e hd3 (n _)
      refine ⟨hP3.but b5 hd3, b5 _ _ (nfl hL3 (by intro k z; cases z)) hL3, ?_, b3.trans b5, b5 _ _ (nfl hb3 (by intro k z; cases z)) hb3, L2.Paired.mapP pr3 fun r p e => b5 _ _ (nfl e (by intro k z; cases z)) e, _, _, _, _, _, rfl⟩
      rw [take_more eu, List.map_append, List.map_singleton, ← List.append_assoc]
      exact FcAt.add nd hk hl hd5
    · obtain ⟨hP3, hL3, hF3, b3, hb3, pr3, a4, a6, a7, a8, a9, rfl⟩ := h
      refine ⟨hP3, hL3, ?_, b3, a4, some (.int fa), a6, a7, a8, a9, ?_⟩
      · rw [etk, tL_snoc]
        rw [List.length_map, pr3.length, List.take_length] at hF3
        exact hF3
      · rw [etk, tB_snoc, Int.add_assoc]
  · obtain ⟨hP', hL', hF, bf, a4, a5, a6, a7, a8, a9, rfl⟩ := h
    rw [List.length_map, pr.length, List.take_length] at hF
    rw [List.length_map, pr.length, List.take_length]
    obtain ⟨ks, nd, hk, hl, hd⟩ := hF
    have hpn : ∀ z ∈ ps, z.1 < ns.length := fun z hz => (hq z hz).1
    have lks : ks.length ≤ 144 := by have := tL_len hP'.wf ps hpn; omega
    have ofH : ∀ {b : Addr} {o : HO}, H b = some o → H' b = some o := fun {b o} e => bf b o (fun z => by rw [z, nfd] at e; cases e) (s1 _ _ e)
    (with_reducible refine w_seq ?_)
    (with_reducible refine w_asg ?_)
    (with_reducible refine w_cb ?_)
    (with_reducible refine w_cons ?_)
    (with_reducible refine w_lc ?_)
    (with_reducible refine w_iL ?_)
    (with_reducible refine w_cb ?_)
    (with_reducible refine w_cons ?_)
    ((with_reducible refine' w_var ?hv ?_); (case hv => exact rfl))
    (with_reducible refine w_nil ?_)
    refine w_sortedDA (ks.map fun (k : Nat) => (k : Int)) hd (by unfold fD; rw [List.map_map, List.map_map]; rfl) (by rw [List.length_map]; omega) fun ys S H2 perm asc nS s2 hS => ?_
    obtain ⟨zs, pz, rfl⟩ := L2.perm_lift (fun (k : Nat) => (k : Int)) perm ks rfl
    have zasc : zs.Pairwise (· < ·) := asc_of (pz.nodup_iff.mpr nd) asc
    have hd2 := s2 _ _ hd
    have hP2 := hP'.same s2
    have plen : ∀ l : List Nat, (pF (tC ns ps) l).length ≤ l.length := fun l => by unfold pF; rw [List.length_map]; exact List.length_filter_le _ _
    have lzs : zs.length = ks.length := pz.length_eq
    refine w_lcL ((zs.map fun (k : Nat) => (k : Int)).map V.int) (fun D i H3 => H2 D = none ∧ Same H2 H3 ∧ ∃ as : List Addr, H3 D = some (.lst (as.map V.ref)) ∧ Paired (fun (r : Addr) (p : Nat × Int) => H3 r = some (.tup [.int (p.1 : Int), .int p.2])) as (pF (tC ns ps) (zs.take i))) (.of hS) (fun D nD => ⟨nD, Same.new nD, [], upd_same, .nil⟩) (fun D i H3 _ h => .of (h.2.1 _ _ hS)) (fun D i x H3 hx h => ?_) (fun D H3 nD h => ?_)
    · obtain ⟨nD, s3, as, hD, pa⟩ := h
      rw [List.getElem?_map, List.getElem?_map] at hx
      cases ez : zs[i]? with
      | none => rw [ez] at hx; cases hx
      | some k =>
        rw [ez] at hx
        cases hx
        have mk : k ∈ ks := pz.mem_iff.mp (List.mem_of_getElem? ez)
        have hd3 := s3 _ _ hd2
        have gv : valV (fD ks fun k => coef (tL ns ps) k % M32) (kI (k : Int)) = some (.int (coef (tL ns ps) k % M32)) := by rw [valV_fD, if_pos mk]
        have tk := take_more ez
        (with_reducible refine w_name ?_)
        refine ⟨rfl, ?_⟩
        (with_reducible refine w_test ?_)
        (with_reducible refine w_op ?_)
        (with_reducible refine w_dget ?_)
        ((with_reducible refine' w_var ?hv ?_); (case hv => exact rfl))
        ((with_reducible refine' w_var ?hv ?_); (case hv => exact rfl))
        refine w_kDGI hd3 gv ?_
        (with_reducible refine w_c ?_)
        (with_reducible refine w_neI ?_)
        (with_reducible refine w_bl ?_)
        by_cases nz : coef (tL ns ps) k % M32 = 0
        · refine w_ndecF nz ?_
          skip
          refine ⟨nD, s3, as, hD, ?_⟩
          have : pF (tC ns ps) (zs.take (i + 1)) = pF (tC ns ps) (zs.take i) := by rw [tk]; exact pF_snoc0 nz
          rw [this]
          exact pa
        · refine w_ndecT nz ?_
          (with_reducible refine w_tup ?_)
          (with_reducible refine w_cons ?_)
          ((with_reducible refine' w_var ?hv ?_); (case hv => exact rfl))
          (with_reducible refine w_cons ?_)
          (with_reducible refine w_dget ?_)
          ((with_reducible refine' w_var ?hv ?_); (case hv => exact rfl))
          ((with_reducible refine' w_var ?hv ?_); (case hv => exact rfl))
          refine w_kDGI hd3 gv ?_
          (with_reducible refine w_nil ?_)
          refine w_kTup (by show 2 ≤ sizeLine; decide) fun r H4 nr s4 hr4 => ?_
          have hD4 := s4 _ _ hD
          have la : as.length ≤ 144 := by
            have e1 := pa.length
            have e2 := plen (zs.take i)
            rw [List.length_take] at e2
            omega
          refine ⟨_, hD4, by rw [List.length_map]; exact Nat.lt_of_le_of_lt la (by decide), nD, fun y o hy => ?_, as ++ [r], by rw [upd_same, List.map_append]; rfl, ?_⟩
          · rw [upd_ne (ne_of_none hy nD)]; exact s4 _ _ (s3 _ _ hy)
          · have : pF (tC ns ps) (zs.take (i + 1)) = pF (tC ns ps) (zs.take i) ++ [(k, coef (tL ns ps) k % M32)] := by rw [tk]; exact pF_snoc1 nz
            rw [this]
            exact pd_snoc (L2.Paired.mapP pa fun r' p' e => by rw [upd_ne (ne_of (s4 _ _ e) hD4 (by intro z; cases z))]; exact s4 _ _ e) (by rw [upd_ne (ne_of hr4 hD4 (by intro z; cases z))]; exact hr4)
    · obtain ⟨_, s3, as, hD, pa⟩ := h
      rw [List.length_map, List.length_map, List.take_length] at pa
      have epl : pF (tC ns ps) zs = tS ns ps := by
        show (zs.filter _).map _ = ((List.range ns.length).filter fun k => tC ns ps k ≠ 0).map fun k => (k, tC ns ps k)
        have : zs.filter (fun k => tC ns ps k ≠ 0) = (List.range ns.length).filter fun k => tC ns ps k ≠ 0 := by
          refine asc_ext (zasc.sublist List.filter_sublist) (List.pairwise_lt_range.sublist List.filter_sublist) fun k => ?_
          rw [List.mem_filter, List.mem_filter, List.mem_range]
          constructor
          · rintro ⟨h1, h2⟩
            obtain ⟨q', hq', e⟩ := (hk k).mp (pz.mem_iff.mp h1)
            exact ⟨by rw [← e]; exact (tL_atoms hP'.wf hpn q' hq').lt, h2⟩
          · rintro ⟨h1, h2⟩
            refine ⟨pz.mem_iff.mpr ?_, h2⟩
            apply Classical.byContradiction
            intro n
            have z0 := coef_no hk n
            simp [tC, z0] at h2
        rw [this]
      rw [epl] at pa
      (with_reducible refine w_nil ?_)
      refine w_tupL (.of hD) fun T H4 nT s4 hT => ?_
      (with_reducible refine w_name ?_)
      (with_reducible refine w_ret ?_)
      (with_reducible refine w_if ?_)
      (with_reducible refine w_test ?_)
      (with_reducible refine w_op ?_)
      (with_reducible refine w_cb ?_)
      (with_reducible refine w_cons ?_)
      ((with_reducible refine' w_var ?hv ?_); (case hv => exact rfl))
      (with_reducible refine w_nil ?_)
      refine w_lenT hT ?_
      (with_reducible refine w_c ?_)
      (with_reducible refine w_I0 ?_)
      (with_reducible refine w_bl ?_)
      have lt : (as.map V.ref).length = (tS ns ps).length := by rw [List.length_map, pa.length]
      rw [lt]
      have hP4 := hP2.same (s3.trans s4)
      have s14 : ∀ {b : Addr} {o : HO}, H b = some o → H4 b = some o := fun e => s4 _ _ (s3 _ _ (s2 _ _ (ofH e)))
      by_cases l12 : 12 < (tS ns ps).length
      · refine w_decT (by exact_mod_cast l12) ?_
        (with_reducible refine w_c ?_)
        exact q0 l12 H4 hP4 (fun b o e => s14 e)
      · refine w_decF (by intro z; apply l12; exact_mod_cast z) ?_
        (with_reducible refine w_md ?_)
        ((with_reducible refine' w_var ?hv ?_); (case hv => exact rfl))
        obtain ⟨dx4, ho4⟩ := hP4.ob
        refine w_kMd ho4 rfl ?_
        (with_reducible refine w_cons ?_)
        (with_reducible refine w_op ?_)
        ((with_reducible refine' w_var ?hv ?_); (case hv => exact rfl))
        (with_reducible refine w_c ?_)
        (with_reducible refine w_I0 ?_)
        (with_reducible refine w_cons ?_)
        ((with_reducible refine' w_var ?hv ?_); (case hv => exact rfl))
        (with_reducible refine w_nil ?_)
        rw [bitAnd_m32]
        have l12' : (tS ns ps).length ≤ 12 := Nat.le_of_not_lt l12
        exact ⟨p, l, d, ns, _, T, tS ns ps, rfl, hP4, hn, ⟨as, hT, L2.Paired.mapP pa fun r' p' e => s4 _ _ e⟩, tS_ordered (base := c + tB ns ps) hP.wf hpn l12', fun H' hP' f => q1 l12' H' hP' ((PFr.of (fun b o e => s14 e)).trans f)⟩
end
end K30


open PySem.W
namespace K30
theorem w_eqO {o : Option Int} {m : Int} {H : Hp} {Q : VK} (q : Q (.bl (decide (o = some m))) H) : rEq (optV o) (.int m) H Q := by
  cases o with
  | none => exact ⟨rfl, by rw [decide_eq_false (by intro z; cases z)] at q; exact q⟩
  | some v =>
    refine w_eqI ?_
    have : decide (v = m) = decide (some v = some m) := by rw [Bool.eq_iff_iff]; simp
    rw [this]; exact q
theorem minI (a b : Nat) : (if (b : Int) < (a : Int) then (b : Int) else (a : Int)) = ((min a b : Nat) : Int) := by split <;> omega
theorem maxI (a b : Nat) : (if (b : Int) > (a : Int) then (b : Int) else (a : Int)) = ((max a b : Nat) : Int) := by split <;> omega
theorem eqN (a b : Nat) : decide ((a : Int) = (b : Int)) = decide (a = b) := by rw [Bool.eq_iff_iff]; simp only [decide_eq_true_eq]; omega
theorem inO (m : Int) (a b : Option Int) : inV (.int m) [optV a, optV b] = decide (a = some m ∨ b = some m) := by
  have one : ∀ o : Option Int, eqV (optV o) (.int m) = decide (o = some m) := fun o => by
    cases o with
    | none => rfl
    | some v =>
      show (v == m) = _
      rw [Bool.eq_iff_iff]; simp
  show (eqV _ _ || (eqV _ _ || false)) = _
  rw [one, one, Bool.or_false, Bool.eq_iff_iff]
  simp
theorem flatO (o : Option Int) : flatV (optV o) = true := by cases o <;> rfl
local macro_rules | `(tactic| walk_at "w1") => `(tactic| first
  | (with_reducible refine w_fld ?_)
  | (with_reducible refine w_md ?_)
  | (with_reducible refine w_par ?_)
  | (with_reducible refine w_eqO ?_)
  | ((with_reducible refine' w_kFld ?hT ?hh ?hm ?hl ?_); (case hT => assumption); (case hh => assumption); (case hm => decide); (case hl => exact rfl)))
theorem sc_and : FnScope ["pool", "op", "s", "t", "words"] ["pool", "op", "s", "t"] (defScope s_and) := ⟨rfl, rfl, rfl, by decide +kernel, rfl, by decide +kernel, by decide +kernel⟩
theorem sc_or : FnScope ["pool", "op", "s", "t", "words"] ["pool", "op", "s", "t"] (defScope s_or) := ⟨rfl, rfl, rfl, by decide +kernel, rfl, by decide +kernel, by decide +kernel⟩
theorem sc_xor : FnScope ["pool", "op", "s", "t"] ["pool", "op", "s", "t"] (defScope s_xor) := ⟨rfl, rfl, rfl, by decide +kernel, rfl, by decide +kernel, by decide +kernel⟩
theorem sc_mul : FnScope ["pool", "op", "s", "t"] ["pool", "op", "s", "t"] (defScope s_mul) := ⟨rfl, rfl, rfl, by decide +kernel, rfl, by decide +kernel, by decide +kernel⟩
theorem sc_shift : FnScope ["pool", "op", "s", "t", "word"] ["pool", "op", "s", "t"] (defScope s_shift) := ⟨rfl, rfl, rfl, by decide +kernel, rfl, by decide +kernel, by decide +kernel⟩
theorem sc_less : FnScope ["pool", "op", "s", "t"] ["pool", "op", "s", "t"] (defScope s_less) := ⟨rfl, rfl, rfl, by decide +kernel, rfl, by decide +kernel, by decide +kernel⟩
theorem sc_divu : FnScope ["pool", "op", "s", "t"] ["pool", "op", "s", "t"] (defScope s_divu) := ⟨rfl, rfl, rfl, by decide +kernel, rfl, by decide +kernel, by decide +kernel⟩
theorem sc_remu : FnScope ["pool", "op", "s", "t"] ["pool", "op", "s", "t"] (defScope s_remu) := ⟨rfl, rfl, rfl, by decide +kernel, rfl, by decide +kernel, by decide +kernel⟩
abbrev RlF := List Nd → Str → Nat → Nat → Option (List Nd × Nat)
def oAnd : RlF := fun ns o s t => some (if min s t = max s t ∨ wordOf ns (max s t) = some top32 then (ns, min s t) else if wordOf ns (min s t) = some top32 then (ns, max s t) else if wordOf ns (min s t) = some 0 ∨ wordOf ns (max s t) = some 0 then intern ns (.word 0) else intern ns (.op o (min s t) (max s t)))
def oOr : RlF := fun ns o s t => some (if min s t = max s t ∨ wordOf ns (max s t) = some 0 then (ns, min s t) else if wordOf ns (min s t) = some 0 then (ns, max s t) else if wordOf ns (min s t) = some top32 ∨ wordOf ns (max s t) = some top32 then intern ns (.word top32) else intern ns (.op o (min s t) (max s t)))
def oXor : RlF := fun ns o s t => some (if min s t = max s t then intern ns (.word 0) else if wordOf ns (max s t) = some 0 then (ns, min s t) else if wordOf ns (min s t) = some 0 then (ns, max s t) else intern ns (.op o (min s t) (max s t)))
def oMul : RlF := fun ns o s t => some (intern ns (.op o (min s t) (max s t)))
def oShift : RlF := fun ns o s t => match wordOf ns t with | none => none | some w => some (if w % 32 = 0 then (ns, s) else intern (intern ns (.word (w % 32))).1 (.op o s (intern ns (.word (w % 32))).2))
def oLess : RlF := fun ns _ s t => if s = t then some (intern ns (.word 0)) else none
def oDivu : RlF := fun ns _ s t => if wordOf ns t = some 1 then some (ns, s) else none
def oRemu : RlF := fun ns _ _ t => if wordOf ns t = some 1 then some (intern ns (.word 0)) else none
def spRl (P : Program) (w : World) (C : Addr) (G : RlF) : Sp := fun vs H Q _ => ∃ (p l d : Addr) (ns : List Nd) (o : Str) (s t : Nat), vs = [.ref p, .str o, .int (s : Int), .int (t : Int)] ∧ PoAt P w C H p l d ns ∧ ns.length < 99000 ∧ IsOp o ∧ s < ns.length ∧ t < ns.length ∧
  (G ns o s t = none → ∀ H', PoAt P w C H' p l d ns → Same H H' → Q .non H') ∧ (∀ r, G ns o s t = some r → ∀ H', PoAt P w C H' p l d r.1 → PFr l d H H' → Q (.int (r.2 : Nat)) H')
section
variable {P : Program} {w : World} {K : PySem.W.Frag} {mg : Str → Option Value} {base : Heap} {C_Pool : Addr}
theorem ol_and {fa : Addr} (b_min : mg "min" = none) (b_max : mg "max" = none) (g_MASK : GV mg "MASK" (.int 4294967295)) (m_Pool_word_of : Md P w K mg base 1 C_Pool "word_of" (spWordOf P w C_Pool)) (m_Pool_word : Md P w K mg base 2 C_Pool "word" (spWordP P w C_Pool)) (m_Pool_term : Md P w K mg base 1 C_Pool "term" (spTerm P w C_Pool)) (T_Pool : Ob K C_Pool poN) (Z : StF K "_and" s_and ["pool", "op", "s", "t"] fa) : Held P w K mg base 4 fa (spRl P w C_Pool oAnd) := by
  refine Z.cd sc_and (fun vs H Q E h => by obtain ⟨p, l, d, ns, o, s, t, rfl, _⟩ := h; rfl) (fun f cdv A outer s H vs Q E hr h => ?_)
  obtain ⟨p, l, d, ns, o, a, b, rfl, hP, hn, io, ha, hb, _, q⟩ := h
  have q := q _ rfl
  refine ⟨_, (pss_cons (ps_par (i := 2) (j := 3) rfl sc_and.nd rfl rfl (by decide) rfl rfl (pa_cons (pe_callB (call_min2 rfl) (by rfl) b_min (by decide +kernel) (pa_cons (pv 2) (pa_cons (pv 3) pa_nil))) (pa_cons (pe_callB (call_max2 rfl) (by rfl) b_max (by decide +kernel) (pa_cons (pv 2) (pa_cons (pv 3) pa_nil))) pa_nil)) (by rfl))
      (pss_cons (ps_set (i := 4) sc_and.nd rfl (.inl rfl) (pe_tup (pa_cons (pe_md T_Pool.cl m_Pool_word_of hr (by first | decide | omega) (pv 0) (pa_cons (pv 2) pa_nil)) (pa_cons (pe_md T_Pool.cl m_Pool_word_of hr (by first | decide | omega) (pv 0) (pa_cons (pv 3) pa_nil)) pa_nil))))
      (pss_cons (ps_if (PW.pt (pw_or (pt_cmpR op_eq (pv 2) (pv 3) (nomark _)) (pw_or1 (pt_cmpR op_eq (pe_ix ix_tup (pv 4) pe_int (fun _ _ => rfl)) (pe_gv (by rfl) g_MASK) (nomark _))))) (pss_one (ps_ret (pv 2))) pss_nil)
      (pss_cons (ps_if (pt_cmpR op_eq (pe_ix ix_tup (pv 4) pe_int (fun _ _ => rfl)) (pe_gv (by rfl) g_MASK) (nomark _)) (pss_one (ps_ret (pv 3))) pss_nil)
      (pss_one (ps_ret (pe_ifExp (pt_cmpR op_in_seq pe_int (pv 4) rfl) (pe_md T_Pool.cl m_Pool_word hr (by first | decide | omega) (pv 0) (pa_cons pe_int pa_nil)) (pe_md T_Pool.cl m_Pool_term hr (by first | decide | omega) (pv 0) (pa_cons (pe_tup (pa_cons (pv 1) (pa_cons (pv 2) (pa_cons (pv 3) pa_nil)))) pa_nil))))))))), ?_⟩
  have hmm := mm hP.wf ha hb
  obtain ⟨dx, ho⟩ := hP.ob
  (with_reducible refine w_seq ?_)
  (with_reducible refine w_par ?_)
  (with_reducible refine w_cons ?_)
  (with_reducible refine w_cb ?_)
  (with_reducible refine w_cons ?_)
  ((with_reducible refine' w_var ?hv ?_); (case hv => exact rfl))
  (with_reducible refine w_cons ?_)
  ((with_reducible refine' w_var ?hv ?_); (case hv => exact rfl))
  (with_reducible refine w_nil ?_)
  refine ⟨_, _, rfl, ?_⟩
  (with_reducible refine w_cons ?_)
  (with_reducible refine w_cb ?_)
  (with_reducible refine w_cons ?_)
  ((with_reducible refine' w_var ?hv ?_); (case hv => exact rfl))
  (with_reducible refine w_cons ?_)
  ((with_reducible refine' w_var ?hv ?_); (case hv => exact rfl))
  (with_reducible refine w_nil ?_)
  refine ⟨_, _, rfl, ?_⟩
  (with_reducible refine w_nil ?_)
  refine ⟨_, _, rfl, ?_⟩
  rw [minI, maxI]
  (with_reducible refine w_seq ?_)
  (with_reducible refine w_asg ?_)
  (with_reducible refine w_tup ?_)
  (with_reducible refine w_cons ?_)
  (with_reducible refine w_md ?_)
  ((with_reducible refine' w_var ?hv ?_); (case hv => exact rfl))
  refine w_kMd ho rfl ?_
  (with_reducible refine w_cons ?_)
  ((with_reducible refine' w_var ?hv ?_); (case hv => exact rfl))
  (with_reducible refine w_nil ?_)
  refine ⟨p, l, d, ns, _, rfl, hP, hmm.1, ?_⟩
  (with_reducible refine w_cons ?_)
  (with_reducible refine w_md ?_)
  ((with_reducible refine' w_var ?hv ?_); (case hv => exact rfl))
  refine w_kMd ho rfl ?_
  (with_reducible refine w_cons ?_)
  ((with_reducible refine' w_var ?hv ?_); (case hv => exact rfl))
  (with_reducible refine w_nil ?_)
  refine ⟨p, l, d, ns, _, rfl, hP, hmm.2, ?_⟩
  (with_reducible refine w_nil ?_)
  refine w_kTup (by show 2 ≤ sizeLine; decide) fun W H1 nW s1 hW => ?_
  have hP1 := hP.same s1
  have ho1 := s1 _ _ ho
  have f1 := PFr.of (l := l) (d := d) s1
  (with_reducible refine w_name ?_)
  (with_reducible refine w_seq ?_)
  (with_reducible refine w_ifS ?_)
  (with_reducible refine w_orT ?_)
  (with_reducible refine w_test ?_)
  (with_reducible refine w_op ?_)
  ((with_reducible refine' w_var ?hv ?_); (case hv => exact rfl))
  ((with_reducible refine' w_var ?hv ?_); (case hv => exact rfl))
  (with_reducible refine w_eqI ?_)
  (with_reducible refine w_bl ?_)
  rw [eqN]
  by_cases e1 : min a b = max a b
  · rw [if_pos (.inl e1)] at q
    refine w_decT e1 ?_
    (with_reducible refine w_itT ?_)
    (with_reducible refine w_ret ?_)
    ((with_reducible refine' w_var ?hv ?_); (case hv => exact rfl))
    exact q H1 hP1 f1
  refine w_decF e1 ?_
  (with_reducible refine w_test ?_)
  (with_reducible refine w_op ?_)
  (with_reducible refine w_op ?_)
  ((with_reducible refine' w_var ?hv ?_); (case hv => exact rfl))
  (with_reducible refine w_c ?_)
  ((with_reducible refine' w_ixT ?hh ?ha ?_); (case hh => assumption); (case ha => exact rfl))
  (with_reducible refine w_c ?_)
  (with_reducible refine w_eqO ?_)
  (with_reducible refine w_bl ?_)
  by_cases e2 : wordOf ns (max a b) = some top32
  · rw [if_pos (.inr e2)] at q
    refine w_decT e2 ?_
    (with_reducible refine w_ret ?_)
    ((with_reducible refine' w_var ?hv ?_); (case hv => exact rfl))
    exact q H1 hP1 f1
  rw [if_neg (fun z => z.elim e1 e2)] at q
  refine w_decF e2 ?_
  (with_reducible refine w_next ?_)
  (with_reducible refine w_seq ?_)
  (with_reducible refine w_ifS ?_)
  (with_reducible refine w_test ?_)
  (with_reducible refine w_op ?_)
  (with_reducible refine w_op ?_)
  ((with_reducible refine' w_var ?hv ?_); (case hv => exact rfl))
  (with_reducible refine w_c ?_)
  ((with_reducible refine' w_ixT ?hh ?ha ?_); (case hh => assumption); (case ha => exact rfl))
  (with_reducible refine w_c ?_)
  (with_reducible refine w_eqO ?_)
  (with_reducible refine w_bl ?_)
  by_cases e3 : wordOf ns (min a b) = some top32
  · rw [if_pos e3] at q
    refine w_decT e3 ?_
    (with_reducible refine w_ret ?_)
    ((with_reducible refine' w_var ?hv ?_); (case hv => exact rfl))
    exact q H1 hP1 f1
  rw [if_neg e3] at q
  refine w_decF e3 ?_
  (with_reducible refine w_next ?_)
  (with_reducible refine w_ret ?_)
  (with_reducible refine w_if ?_)
  (with_reducible refine w_test ?_)
  (with_reducible refine w_op ?_)
  (with_reducible refine w_c ?_)
  ((with_reducible refine' w_var ?hv ?_); (case hv => exact rfl))
  refine w_inT (.of hW) rfl (by simp [flatO]) (inO _ _ _) ?_
  (with_reducible refine w_bl ?_)
  by_cases e4 : wordOf ns (min a b) = some 0 ∨ wordOf ns (max a b) = some 0
  · rw [if_pos e4] at q
    refine w_decT e4 ?_
    (with_reducible refine w_md ?_)
    ((with_reducible refine' w_var ?hv ?_); (case hv => exact rfl))
    refine w_kMd ho1 rfl ?_
    (with_reducible refine w_cons ?_)
    (with_reducible refine w_c ?_)
    (with_reducible refine w_nil ?_)
    exact ⟨p, l, d, ns, _, rfl, hP1, by omega, w0, fun H' hP' f => q H' hP' (f1.trans f)⟩
  · rw [if_neg e4] at q
    refine w_decF e4 ?_
    (with_reducible refine w_md ?_)
    ((with_reducible refine' w_var ?hv ?_); (case hv => exact rfl))
    refine w_kMd ho1 rfl ?_
    (with_reducible refine w_cons ?_)
    (with_reducible refine w_tup ?_)
    (with_reducible refine w_cons ?_)
    ((with_reducible refine' w_var ?hv ?_); (case hv => exact rfl))
    (with_reducible refine w_cons ?_)
    ((with_reducible refine' w_var ?hv ?_); (case hv => exact rfl))
    (with_reducible refine w_cons ?_)
    ((with_reducible refine' w_var ?hv ?_); (case hv => exact rfl))
    (with_reducible refine w_nil ?_)
    refine w_kTup (by show 3 ≤ sizeLine; decide) fun T H2 nT s2 hT => ?_
    (with_reducible refine w_nil ?_)
    exact ⟨p, l, d, ns, T, .op o (min a b) (max a b), rfl, hP1.same s2, by omega, hT, ⟨io, hmm.1, hmm.2⟩, fun H' hP' f => q H' hP' ((f1.trans (.of s2)).trans f)⟩
theorem ol_or {fa : Addr} (b_min : mg "min" = none) (b_max : mg "max" = none) (g_MASK : GV mg "MASK" (.int 4294967295)) (m_Pool_word_of : Md P w K mg base 1 C_Pool "word_of" (spWordOf P w C_Pool)) (m_Pool_word : Md P w K mg base 2 C_Pool "word" (spWordP P w C_Pool)) (m_Pool_term : Md P w K mg base 1 C_Pool "term" (spTerm P w C_Pool)) (T_Pool : Ob K C_Pool poN) (Z : StF K "_or" s_or ["pool", "op", "s", "t"] fa) : Held P w K mg base 4 fa (spRl P w C_Pool oOr) := by
  refine Z.cd sc_or (fun vs H Q E h => by obtain ⟨p, l, d, ns, o, s, t, rfl, _⟩ := h; rfl) (fun f cdv A outer s H vs Q E hr h => ?_)
  obtain ⟨p, l, d, ns, o, a, b, rfl, hP, hn, io, ha, hb, _, q⟩ := h
  have q := q _ rfl
  refine ⟨_, (pss_cons (ps_par (i := 2) (j := 3) rfl sc_or.nd rfl rfl (by decide) rfl rfl (pa_cons (pe_callB (call_min2 rfl) (by rfl) b_min (by decide +kernel) (pa_cons (pv 2) (pa_cons (pv 3) pa_nil))) (pa_cons (pe_callB (call_max2 rfl) (by rfl) b_max (by decide +kernel) (pa_cons (pv 2) (pa_cons (pv 3) pa_nil))) pa_nil)) (by rfl))
      (pss_cons (ps_set (i := 4) sc_or.nd rfl (.inl rfl) (pe_tup (pa_cons (pe_md T_Pool.cl m_Pool_word_of hr (by first | decide | omega) (pv 0) (pa_cons (pv 2) pa_nil)) (pa_cons (pe_md T_Pool.cl m_Pool_word_of hr (by first | decide | omega) (pv 0) (pa_cons (pv 3) pa_nil)) pa_nil))))
      (pss_cons (ps_if (PW.pt (pw_or (pt_cmpR op_eq (pv 2) (pv 3) (nomark _)) (pw_or1 (pt_cmpR op_eq (pe_ix ix_tup (pv 4) pe_int (fun _ _ => rfl)) pe_int (nomark _))))) (pss_one (ps_ret (pv 2))) pss_nil)
      (pss_cons (ps_if (pt_cmpR op_eq (pe_ix ix_tup (pv 4) pe_int (fun _ _ => rfl)) pe_int (nomark _)) (pss_one (ps_ret (pv 3))) pss_nil)
      (pss_one (ps_ret (pe_ifExp (pt_cmpR op_in_seq (pe_gv (by rfl) g_MASK) (pv 4) rfl) (pe_md T_Pool.cl m_Pool_word hr (by first | decide | omega) (pv 0) (pa_cons (pe_gv (by rfl) g_MASK) pa_nil)) (pe_md T_Pool.cl m_Pool_term hr (by first | decide | omega) (pv 0) (pa_cons (pe_tup (pa_cons (pv 1) (pa_cons (pv 2) (pa_cons (pv 3) pa_nil)))) pa_nil))))))))), ?_⟩
  have hmm := mm hP.wf ha hb
  obtain ⟨dx, ho⟩ := hP.ob
  (with_reducible refine w_seq ?_)
  (with_reducible refine w_par ?_)
  (with_reducible refine w_cons ?_)
  (with_reducible refine w_cb ?_)
  (with_reducible refine w_cons ?_)
  ((with_reducible refine' w_var ?hv ?_); (case hv => exact rfl))
  (with_reducible refine w_cons ?_)
  ((with_reducible refine' w_var ?hv ?_); (case hv => exact rfl))
  (with_reducible refine w_nil ?_)
  refine ⟨_, _, rfl, ?_⟩
  (with_reducible refine w_cons ?_)
  (with_reducible refine w_cb ?_)
  (with_reducible refine w_cons ?_)
  ((with_reducible refine' w_var ?hv ?_); (case hv => exact rfl))
  (with_reducible refine w_cons ?_)
  ((with_reducible refine' w_var ?hv ?_); (case hv => exact rfl))
  (with_reducible refine w_nil ?_)
  refine ⟨_, _, rfl, ?_⟩
  (with_reducible refine w_nil ?_)
  refine ⟨_, _, rfl, ?_⟩
  rw [minI, maxI]
  (with_reducible refine w_seq ?_)
  (with_reducible refine w_asg ?_)
  (with_reducible refine w_tup ?_)
  (with_reducible refine w_cons ?_)
  (with_reducible refine w_md ?_)
  ((with_reducible refine' w_var ?hv ?_); (case hv => exact rfl))
  refine w_kMd ho rfl ?_
  (with_reducible refine w_cons ?_)
  ((with_reducible refine' w_var ?hv ?_); (case hv => exact rfl))
  (with_reducible refine w_nil ?_)
  refine ⟨p, l, d, ns, _, rfl, hP, hmm.1, ?_⟩
  (with_reducible refine w_cons ?_)
  (with_reducible refine w_md ?_)
  ((with_reducible refine' w_var ?hv ?_); (case hv => exact rfl))
  refine w_kMd ho rfl ?_
  (with_reducible refine w_cons ?_)
  ((with_reducible refine' w_var ?hv ?_); (case hv => exact rfl))
  (with_reducible refine w_nil ?_)
  refine ⟨p, l, d, ns, _, rfl, hP, hmm.2, ?_⟩
  (with_reducible refine w_nil ?_)
  refine w_kTup (by show 2 ≤ sizeLine; decide) fun W H1 nW s1 hW => ?_
  have hP1 := hP.same s1
  have ho1 := s1 _ _ ho
  have f1 := PFr.of (l := l) (d := d) s1
  (with_reducible refine w_name ?_)
  (with_reducible refine w_seq ?_)
  (with_reducible refine w_ifS ?_)
  (with_reducible refine w_orT ?_)
  (with_reducible refine w_test ?_)
  (with_reducible refine w_op ?_)
  ((with_reducible refine' w_var ?hv ?_); (case hv => exact rfl))
  ((with_reducible refine' w_var ?hv ?_); (case hv => exact rfl))
  (with_reducible refine w_eqI ?_)
  (with_reducible refine w_bl ?_)
  rw [eqN]
  by_cases e1 : min a b = max a b
  · rw [if_pos (.inl e1)] at q
    refine w_decT e1 ?_
    (with_reducible refine w_itT ?_)
    (with_reducible refine w_ret ?_)
    ((with_reducible refine' w_var ?hv ?_); (case hv => exact rfl))
    exact q H1 hP1 f1
  refine w_decF e1 ?_
  (with_reducible refine w_test ?_)
  (with_reducible refine w_op ?_)
  (with_reducible refine w_op ?_)
  ((with_reducible refine' w_var ?hv ?_); (case hv => exact rfl))
  (with_reducible refine w_c ?_)
  ((with_reducible refine' w_ixT ?hh ?ha ?_); (case hh => assumption); (case ha => exact rfl))
  (with_reducible refine w_c ?_)
  (with_reducible refine w_eqO ?_)
  (with_reducible refine w_bl ?_)
  by_cases e2 : wordOf ns (max a b) = some 0
  · rw [if_pos (.inr e2)] at q
    refine w_decT e2 ?_
    (with_reducible refine w_ret ?_)
    ((with_reducible refine' w_var ?hv ?_); (case hv => exact rfl))
    exact q H1 hP1 f1
  rw [if_neg (fun z => z.elim e1 e2)] at q
  refine w_decF e2 ?_
  (with_reducible refine w_next ?_)
  (with_reducible refine w_seq ?_)
  (with_reducible refine w_ifS ?_)
  (with_reducible refine w_test ?_)
  (with_reducible refine w_op ?_)
  (with_reducible refine w_op ?_)
  ((with_reducible refine' w_var ?hv ?_); (case hv => exact rfl))
  (with_reducible refine w_c ?_)
  ((with_reducible refine' w_ixT ?hh ?ha ?_); (case hh => assumption); (case ha => exact rfl))
  (with_reducible refine w_c ?_)
  (with_reducible refine w_eqO ?_)
  (with_reducible refine w_bl ?_)
  by_cases e3 : wordOf ns (min a b) = some 0
  · rw [if_pos e3] at q
    refine w_decT e3 ?_
    (with_reducible refine w_ret ?_)
    ((with_reducible refine' w_var ?hv ?_); (case hv => exact rfl))
    exact q H1 hP1 f1
  rw [if_neg e3] at q
  refine w_decF e3 ?_
  (with_reducible refine w_next ?_)
  (with_reducible refine w_ret ?_)
  (with_reducible refine w_if ?_)
  (with_reducible refine w_test ?_)
  (with_reducible refine w_op ?_)
  (with_reducible refine w_c ?_)
  ((with_reducible refine' w_var ?hv ?_); (case hv => exact rfl))
  refine w_inT (.of hW) rfl (by simp [flatO]) (inO _ _ _) ?_
  (with_reducible refine w_bl ?_)
  by_cases e4 : wordOf ns (min a b) = some top32 ∨ wordOf ns (max a b) = some top32
  · rw [if_pos e4] at q
    refine w_decT e4 ?_
    (with_reducible refine w_md ?_)
    ((with_reducible refine' w_var ?hv ?_); (case hv => exact rfl))
    refine w_kMd ho1 rfl ?_
    (with_reducible refine w_cons ?_)
    (with_reducible refine w_c ?_)
    (with_reducible refine w_nil ?_)
    exact ⟨p, l, d, ns, _, rfl, hP1, by omega, wTop, fun H' hP' f => q H' hP' (f1.trans f)⟩
  · rw [if_neg e4] at q
    refine w_decF e4 ?_
    (with_reducible refine w_md ?_)
    ((with_reducible refine' w_var ?hv ?_); (case hv => exact rfl))
    refine w_kMd ho1 rfl ?_
    (with_reducible refine w_cons ?_)
    (with_reducible refine w_tup ?_)
    (with_reducible refine w_cons ?_)
    ((with_reducible refine' w_var ?hv ?_); (case hv => exact rfl))
    (with_reducible refine w_cons ?_)
    ((with_reducible refine' w_var ?hv ?_); (case hv => exact rfl))
    (with_reducible refine w_cons ?_)
    ((with_reducible refine' w_var ?hv ?_); (case hv => exact rfl))
    (with_reducible refine w_nil ?_)
    refine w_kTup (by show 3 ≤ sizeLine; decide) fun T H2 nT s2 hT => ?_
    (with_reducible refine w_nil ?_)
    exact ⟨p, l, d, ns, T, .op o (min a b) (max a b), rfl, hP1.same s2, by omega, hT, ⟨io, hmm.1, hmm.2⟩, fun H' hP' f => q H' hP' ((f1.trans (.of s2)).trans f)⟩
theorem ol_xor {fa : Addr} (b_min : mg "min" = none) (b_max : mg "max" = none) (m_Pool_word_of : Md P w K mg base 1 C_Pool "word_of" (spWordOf P w C_Pool)) (m_Pool_word : Md P w K mg base 2 C_Pool "word" (spWordP P w C_Pool)) (m_Pool_term : Md P w K mg base 1 C_Pool "term" (spTerm P w C_Pool)) (T_Pool : Ob K C_Pool poN) (Z : StF K "_xor" s_xor ["pool", "op", "s", "t"] fa) : Held P w K mg base 4 fa (spRl P w C_Pool oXor) := by
  refine Z.cd sc_xor (fun vs H Q E h => by obtain ⟨p, l, d, ns, o, s, t, rfl, _⟩ := h; rfl) (fun f cdv A outer s H vs Q E hr h => ?_)
  obtain ⟨p, l, d, ns, o, a, b, rfl, hP, hn, io, ha, hb, q0, q⟩ := h
  refine ⟨_, (pss_cons (ps_par (i := 2) (j := 3) rfl sc_xor.nd rfl rfl (by decide) rfl rfl (pa_cons (pe_callB (call_min2 rfl) (by rfl) b_min (by decide +kernel) (pa_cons (pv 2) (pa_cons (pv 3) pa_nil))) (pa_cons (pe_callB (call_max2 rfl) (by rfl) b_max (by decide +kernel) (pa_cons (pv 2) (pa_cons (pv 3) pa_nil))) pa_nil)) (by rfl))
      (pss_cons (ps_if (pt_cmpR op_eq (pv 2) (pv 3) (nomark _)) (pss_one (ps_ret (pe_md T_Pool.cl m_Pool_word hr (by first | decide | omega) (pv 0) (pa_cons pe_int pa_nil)))) pss_nil)
      (pss_cons (ps_if (pt_cmpR op_eq (pe_md T_Pool.cl m_Pool_word_of hr (by first | decide | omega) (pv 0) (pa_cons (pv 3) pa_nil)) pe_int (nomark _)) (pss_one (ps_ret (pv 2))) pss_nil)
      (pss_one (ps_ret (pe_ifExp (pt_cmpR op_eq (pe_md T_Pool.cl m_Pool_word_of hr (by first | decide | omega) (pv 0) (pa_cons (pv 2) pa_nil)) pe_int (nomark _)) (pv 3) (pe_md T_Pool.cl m_Pool_term hr (by first | decide | omega) (pv 0) (pa_cons (pe_tup (pa_cons (pv 1) (pa_cons (pv 2) (pa_cons (pv 3) pa_nil)))) pa_nil)))))))), ?_⟩
  have hmm := mm hP.wf ha hb
  obtain ⟨dx, ho⟩ := hP.ob
  have q := q _ rfl
  (with_reducible refine w_seq ?_)
  (with_reducible refine w_par ?_)
  (with_reducible refine w_cons ?_)
  (with_reducible refine w_cb ?_)
  (with_reducible refine w_cons ?_)
  ((with_reducible refine' w_var ?hv ?_); (case hv => exact rfl))
  (with_reducible refine w_cons ?_)
  ((with_reducible refine' w_var ?hv ?_); (case hv => exact rfl))
  (with_reducible refine w_nil ?_)
  refine ⟨_, _, rfl, ?_⟩
  (with_reducible refine w_cons ?_)
  (with_reducible refine w_cb ?_)
  (with_reducible refine w_cons ?_)
  ((with_reducible refine' w_var ?hv ?_); (case hv => exact rfl))
  (with_reducible refine w_cons ?_)
  ((with_reducible refine' w_var ?hv ?_); (case hv => exact rfl))
  (with_reducible refine w_nil ?_)
  refine ⟨_, _, rfl, ?_⟩
  (with_reducible refine w_nil ?_)
  refine ⟨_, _, rfl, ?_⟩
  rw [minI, maxI]
  (with_reducible refine w_seq ?_)
  (with_reducible refine w_ifS ?_)
  (with_reducible refine w_test ?_)
  (with_reducible refine w_op ?_)
  ((with_reducible refine' w_var ?hv ?_); (case hv => exact rfl))
  ((with_reducible refine' w_var ?hv ?_); (case hv => exact rfl))
  (with_reducible refine w_eqI ?_)
  (with_reducible refine w_bl ?_)
  rw [eqN]
  by_cases e1 : min a b = max a b
  · rw [if_pos e1] at q
    refine w_decT e1 ?_
    (with_reducible refine w_ret ?_)
    (with_reducible refine w_md ?_)
    ((with_reducible refine' w_var ?hv ?_); (case hv => exact rfl))
    refine w_kMd ho rfl ?_
    (with_reducible refine w_cons ?_)
    (with_reducible refine w_c ?_)
    (with_reducible refine w_nil ?_)
    exact ⟨p, l, d, ns, _, rfl, hP, by omega, w0, fun H' hP' f => q H' hP' f⟩
  rw [if_neg e1] at q
  refine w_decF e1 ?_
  (with_reducible refine w_next ?_)
  (with_reducible refine w_seq ?_)
  (with_reducible refine w_ifS ?_)
  (with_reducible refine w_test ?_)
  (with_reducible refine w_op ?_)
  (with_reducible refine w_md ?_)
  ((with_reducible refine' w_var ?hv ?_); (case hv => exact rfl))
  refine w_kMd ho rfl ?_
  (with_reducible refine w_cons ?_)
  ((with_reducible refine' w_var ?hv ?_); (case hv => exact rfl))
  (with_reducible refine w_nil ?_)
  refine ⟨p, l, d, ns, _, rfl, hP, hmm.2, ?_⟩
  (with_reducible refine w_c ?_)
  (with_reducible refine w_eqO ?_)
  (with_reducible refine w_bl ?_)
  by_cases e2 : wordOf ns (max a b) = some 0
  · rw [if_pos e2] at q
    refine w_decT e2 ?_
    (with_reducible refine w_ret ?_)
    ((with_reducible refine' w_var ?hv ?_); (case hv => exact rfl))
    exact q H hP (PFr.refl _ _ _)
  rw [if_neg e2] at q
  refine w_decF e2 ?_
  (with_reducible refine w_next ?_)
  (with_reducible refine w_ret ?_)
  (with_reducible refine w_if ?_)
  (with_reducible refine w_test ?_)
  (with_reducible refine w_op ?_)
  (with_reducible refine w_md ?_)
  ((with_reducible refine' w_var ?hv ?_); (case hv => exact rfl))
  refine w_kMd ho rfl ?_
  (with_reducible refine w_cons ?_)
  ((with_reducible refine' w_var ?hv ?_); (case hv => exact rfl))
  (with_reducible refine w_nil ?_)
  refine ⟨p, l, d, ns, _, rfl, hP, hmm.1, ?_⟩
  (with_reducible refine w_c ?_)
  (with_reducible refine w_eqO ?_)
  (with_reducible refine w_bl ?_)
  by_cases e3 : wordOf ns (min a b) = some 0
  · rw [if_pos e3] at q
    refine w_decT e3 ?_
    ((with_reducible refine' w_var ?hv ?_); (case hv => exact rfl))
    exact q H hP (PFr.refl _ _ _)
  rw [if_neg e3] at q
  refine w_decF e3 ?_
  (with_reducible refine w_md ?_)
  ((with_reducible refine' w_var ?hv ?_); (case hv => exact rfl))
  refine w_kMd ho rfl ?_
  (with_reducible refine w_cons ?_)
  (with_reducible refine w_tup ?_)
  (with_reducible refine w_cons ?_)
  ((with_reducible refine' w_var ?hv ?_); (case hv => exact rfl))
  (with_reducible refine w_cons ?_)
  ((with_reducible refine' w_var ?hv ?_); (case hv => exact rfl))
  (with_reducible refine w_cons ?_)
  ((with_reducible refine' w_var ?hv ?_); (case hv => exact rfl))
  (with_reducible refine w_nil ?_)
  refine w_kTup (by show 3 ≤ sizeLine; decide) fun T H2 nT s2 hT => ?_
  (with_reducible refine w_nil ?_)
  exact ⟨p, l, d, ns, T, .op o (min a b) (max a b), rfl, hP.same s2, by omega, hT, ⟨io, hmm.1, hmm.2⟩, fun H' hP' f => q H' hP' ((PFr.of s2).trans f)⟩
theorem ol_mul {fa : Addr} (b_min : mg "min" = none) (b_max : mg "max" = none) (m_Pool_word_of : Md P w K mg base 1 C_Pool "word_of" (spWordOf P w C_Pool)) (m_Pool_word : Md P w K mg base 2 C_Pool "word" (spWordP P w C_Pool)) (m_Pool_term : Md P w K mg base 1 C_Pool "term" (spTerm P w C_Pool)) (T_Pool : Ob K C_Pool poN) (Z : StF K "_mul" s_mul ["pool", "op", "s", "t"] fa) : Held P w K mg base 4 fa (spRl P w C_Pool oMul) := by
  refine Z.cd sc_mul (fun vs H Q E h => by obtain ⟨p, l, d, ns, o, s, t, rfl, _⟩ := h; rfl) (fun f cdv A outer s H vs Q E hr h => ?_)
  obtain ⟨p, l, d, ns, o, a, b, rfl, hP, hn, io, ha, hb, q0, q⟩ := h
  refine ⟨_, (pss_one (ps_ret (pe_md T_Pool.cl m_Pool_term hr (by first | decide | omega) (pv 0) (pa_cons (pe_tup (pa_cons (pv 1) (pa_cons (pe_callB (call_min2 rfl) (by rfl) b_min (by decide +kernel) (pa_cons (pv 2) (pa_cons (pv 3) pa_nil))) (pa_cons (pe_callB (call_max2 rfl) (by rfl) b_max (by decide +kernel) (pa_cons (pv 2) (pa_cons (pv 3) pa_nil))) pa_nil)))) pa_nil)))), ?_⟩
  have hmm := mm hP.wf ha hb
  obtain ⟨dx, ho⟩ := hP.ob
  have q := q _ rfl
  (with_reducible refine w_ret ?_)
  (with_reducible refine w_md ?_)
  ((with_reducible refine' w_var ?hv ?_); (case hv => exact rfl))
  refine w_kMd ho rfl ?_
  (with_reducible refine w_cons ?_)
  (with_reducible refine w_tup ?_)
  (with_reducible refine w_cons ?_)
  ((with_reducible refine' w_var ?hv ?_); (case hv => exact rfl))
  (with_reducible refine w_cons ?_)
  (with_reducible refine w_cb ?_)
  (with_reducible refine w_cons ?_)
  ((with_reducible refine' w_var ?hv ?_); (case hv => exact rfl))
  (with_reducible refine w_cons ?_)
  ((with_reducible refine' w_var ?hv ?_); (case hv => exact rfl))
  (with_reducible refine w_nil ?_)
  refine ⟨_, _, rfl, ?_⟩
  (with_reducible refine w_cons ?_)
  (with_reducible refine w_cb ?_)
  (with_reducible refine w_cons ?_)
  ((with_reducible refine' w_var ?hv ?_); (case hv => exact rfl))
  (with_reducible refine w_cons ?_)
  ((with_reducible refine' w_var ?hv ?_); (case hv => exact rfl))
  (with_reducible refine w_nil ?_)
  refine ⟨_, _, rfl, ?_⟩
  rw [minI, maxI]
  (with_reducible refine w_nil ?_)
  refine w_kTup (by show 3 ≤ sizeLine; decide) fun T H2 nT s2 hT => ?_
  (with_reducible refine w_nil ?_)
  exact ⟨p, l, d, ns, T, .op o (min a b) (max a b), rfl, hP.same s2, by omega, hT, ⟨io, hmm.1, hmm.2⟩, fun H' hP' f => q H' hP' ((PFr.of s2).trans f)⟩
theorem ol_less {fa : Addr} (m_Pool_word_of : Md P w K mg base 1 C_Pool "word_of" (spWordOf P w C_Pool)) (m_Pool_word : Md P w K mg base 2 C_Pool "word" (spWordP P w C_Pool)) (m_Pool_term : Md P w K mg base 1 C_Pool "term" (spTerm P w C_Pool)) (T_Pool : Ob K C_Pool poN) (Z : StF K "_less" s_less ["pool", "op", "s", "t"] fa) : Held P w K mg base 4 fa (spRl P w C_Pool oLess) := by
  refine Z.cd sc_less (fun vs H Q E h => by obtain ⟨p, l, d, ns, o, s, t, rfl, _⟩ := h; rfl) (fun f cdv A outer s H vs Q E hr h => ?_)
  obtain ⟨p, l, d, ns, o, a, b, rfl, hP, hn, io, ha, hb, q0, q⟩ := h
  refine ⟨_, (pss_one (ps_ret (pe_ifExp (pt_cmpR op_eq (pv 2) (pv 3) (nomark _)) (pe_md T_Pool.cl m_Pool_word hr (by first | decide | omega) (pv 0) (pa_cons pe_int pa_nil)) pe_non))), ?_⟩
  have hmm := mm hP.wf ha hb
  obtain ⟨dx, ho⟩ := hP.ob
  unfold oLess at q0 q
  (with_reducible refine w_ret ?_)
  (with_reducible refine w_if ?_)
  (with_reducible refine w_test ?_)
  (with_reducible refine w_op ?_)
  ((with_reducible refine' w_var ?hv ?_); (case hv => exact rfl))
  ((with_reducible refine' w_var ?hv ?_); (case hv => exact rfl))
  (with_reducible refine w_eqI ?_)
  (with_reducible refine w_bl ?_)
  rw [eqN]
  by_cases e1 : a = b
  · rw [if_pos e1] at q
    have q := q _ rfl
    refine w_decT e1 ?_
    (with_reducible refine w_md ?_)
    ((with_reducible refine' w_var ?hv ?_); (case hv => exact rfl))
    refine w_kMd ho rfl ?_
    (with_reducible refine w_cons ?_)
    (with_reducible refine w_c ?_)
    (with_reducible refine w_nil ?_)
    exact ⟨p, l, d, ns, _, rfl, hP, by omega, w0, fun H' hP' f => q H' hP' f⟩
  · rw [if_neg e1] at q0
    refine w_decF e1 ?_
    (with_reducible refine w_c ?_)
    exact q0 rfl H hP (Same.refl _)
theorem ol_divu {fa : Addr} (m_Pool_word_of : Md P w K mg base 1 C_Pool "word_of" (spWordOf P w C_Pool)) (m_Pool_word : Md P w K mg base 2 C_Pool "word" (spWordP P w C_Pool)) (m_Pool_term : Md P w K mg base 1 C_Pool "term" (spTerm P w C_Pool)) (T_Pool : Ob K C_Pool poN) (Z : StF K "_divu" s_divu ["pool", "op", "s", "t"] fa) : Held P w K mg base 4 fa (spRl P w C_Pool oDivu) := by
  refine Z.cd sc_divu (fun vs H Q E h => by obtain ⟨p, l, d, ns, o, s, t, rfl, _⟩ := h; rfl) (fun f cdv A outer s H vs Q E hr h => ?_)
  obtain ⟨p, l, d, ns, o, a, b, rfl, hP, hn, io, ha, hb, q0, q⟩ := h
  refine ⟨_, (pss_one (ps_ret (pe_ifExp (pt_cmpR op_eq (pe_md T_Pool.cl m_Pool_word_of hr (by first | decide | omega) (pv 0) (pa_cons (pv 3) pa_nil)) pe_int (nomark _)) (pv 2) pe_non))), ?_⟩
  have hmm := mm hP.wf ha hb
  obtain ⟨dx, ho⟩ := hP.ob
  unfold oDivu at q0 q
  (with_reducible refine w_ret ?_)
  (with_reducible refine w_if ?_)
  (with_reducible refine w_test ?_)
  (with_reducible refine w_op ?_)
  (with_reducible refine w_md ?_)
  ((with_reducible refine' w_var ?hv ?_); (case hv => exact rfl))
  refine w_kMd ho rfl ?_
  (with_reducible refine w_cons ?_)
  ((with_reducible refine' w_var ?hv ?_); (case hv => exact rfl))
  (with_reducible refine w_nil ?_)
  refine ⟨p, l, d, ns, _, rfl, hP, hb, ?_⟩
  (with_reducible refine w_c ?_)
  (with_reducible refine w_eqO ?_)
  (with_reducible refine w_bl ?_)
  by_cases e1 : wordOf ns b = some 1
  · rw [if_pos e1] at q
    have q := q _ rfl
    refine w_decT e1 ?_
    ((with_reducible refine' w_var ?hv ?_); (case hv => exact rfl))
    exact q H hP (PFr.refl _ _ _)
  · rw [if_neg e1] at q0
    refine w_decF e1 ?_
    (with_reducible refine w_c ?_)
    exact q0 rfl H hP (Same.refl _)
theorem ol_remu {fa : Addr} (m_Pool_word_of : Md P w K mg base 1 C_Pool "word_of" (spWordOf P w C_Pool)) (m_Pool_word : Md P w K mg base 2 C_Pool "word" (spWordP P w C_Pool)) (m_Pool_term : Md P w K mg base 1 C_Pool "term" (spTerm P w C_Pool)) (T_Pool : Ob K C_Pool poN) (Z : StF K "_remu" s_remu ["pool", "op", "s", "t"] fa) : Held P w K mg base 4 fa (spRl P w C_Pool oRemu) := by
  refine Z.cd sc_remu (fun vs H Q E h => by obtain ⟨p, l, d, ns, o, s, t, rfl, _⟩ := h; rfl) (fun f cdv A outer s H vs Q E hr h => ?_)
  obtain ⟨p, l, d, ns, o, a, b, rfl, hP, hn, io, ha, hb, q0, q⟩ := h
  refine ⟨_, (pss_one (ps_ret (pe_ifExp (pt_cmpR op_eq (pe_md T_Pool.cl m_Pool_word_of hr (by first | decide | omega) (pv 0) (pa_cons (pv 3) pa_nil)) pe_int (nomark _)) (pe_md T_Pool.cl m_Pool_word hr (by first | decide | omega) (pv 0) (pa_cons pe_int pa_nil)) pe_non))), ?_⟩
  have hmm := mm hP.wf ha hb
  obtain ⟨dx, ho⟩ := hP.ob
  unfold oRemu at q0 q
  (with_reducible refine w_ret ?_)
  (with_reducible refine w_if ?_)
  (with_reducible refine w_test ?_)
  (with_reducible refine w_op ?_)
  (with_reducible refine w_md ?_)
  ((with_reducible refine' w_var ?hv ?_); (case hv => exact rfl))
  refine w_kMd ho rfl ?_
  (with_reducible refine w_cons ?_)
  ((with_reducible refine' w_var ?hv ?_); (case hv => exact rfl))
  (with_reducible refine w_nil ?_)
  refine ⟨p, l, d, ns, _, rfl, hP, hb, ?_⟩
  (with_reducible refine w_c ?_)
  (with_reducible refine w_eqO ?_)
  (with_reducible refine w_bl ?_)
  by_cases e1 : wordOf ns b = some 1
  · rw [if_pos e1] at q
    have q := q _ rfl
    refine w_decT e1 ?_
    (with_reducible refine w_md ?_)
    ((with_reducible refine' w_var ?hv ?_); (case hv => exact rfl))
    refine w_kMd ho rfl ?_
    (with_reducible refine w_cons ?_)
    (with_reducible refine w_c ?_)
    (with_reducible refine w_nil ?_)
    exact ⟨p, l, d, ns, _, rfl, hP, by omega, w0, fun H' hP' f => q H' hP' f⟩
  · rw [if_neg e1] at q0
    refine w_decF e1 ?_
    (with_reducible refine w_c ?_)
    exact q0 rfl H hP (Same.refl _)
theorem ol_shift {fa : Addr} (m_Pool_word_of : Md P w K mg base 1 C_Pool "word_of" (spWordOf P w C_Pool)) (m_Pool_word : Md P w K mg base 2 C_Pool "word" (spWordP P w C_Pool)) (m_Pool_term : Md P w K mg base 1 C_Pool "term" (spTerm P w C_Pool)) (T_Pool : Ob K C_Pool poN) (Z : StF K "_shift" s_shift ["pool", "op", "s", "t"] fa) : Held P w K mg base 4 fa (spRl P w C_Pool oShift) := by
  refine Z.cd sc_shift (fun vs H Q E h => by obtain ⟨p, l, d, ns, o, s, t, rfl, _⟩ := h; rfl) (fun f cdv A outer s H vs Q E hr h => ?_)
  obtain ⟨p, l, d, ns, o, a, b, rfl, hP, hn, io, ha, hb, q0, q⟩ := h
  refine ⟨_, (pss_cons (ps_set (i := 4) sc_shift.nd rfl (.inl rfl) (pe_md T_Pool.cl m_Pool_word_of hr (by first | decide | omega) (pv 0) (pa_cons (pv 3) pa_nil)))
      (pss_cons (ps_if (pt_cmpR op_isNQ (pv 4) pe_non (nomark _)) (pss_one (ps_ret pe_non)) pss_nil)
      (pss_one (ps_ret (pe_ifExp (pt_cmpR op_eq (pe_op op_and (pv 4) pe_int) pe_int (nomark _)) (pv 2) (pe_md T_Pool.cl m_Pool_term hr (by first | decide | omega) (pv 0) (pa_cons (pe_tup (pa_cons (pv 1) (pa_cons (pv 2) (pa_cons (pe_md T_Pool.cl m_Pool_word hr (by first | decide | omega) (pv 0) (pa_cons (pe_op op_and (pv 4) pe_int) pa_nil)) pa_nil)))) pa_nil))))))), ?_⟩
  have hmm := mm hP.wf ha hb
  obtain ⟨dx, ho⟩ := hP.ob
  unfold oShift at q0 q
  (with_reducible refine w_seq ?_)
  (with_reducible refine w_asg ?_)
  (with_reducible refine w_md ?_)
  ((with_reducible refine' w_var ?hv ?_); (case hv => exact rfl))
  refine w_kMd ho rfl ?_
  (with_reducible refine w_cons ?_)
  ((with_reducible refine' w_var ?hv ?_); (case hv => exact rfl))
  (with_reducible refine w_nil ?_)
  refine ⟨p, l, d, ns, _, rfl, hP, hb, ?_⟩
  (with_reducible refine w_name ?_)
  (with_reducible refine w_seq ?_)
  (with_reducible refine w_ifS ?_)
  (with_reducible refine w_test ?_)
  (with_reducible refine w_op ?_)
  ((with_reducible refine' w_var ?hv ?_); (case hv => exact rfl))
  (with_reducible refine w_c ?_)
  cases hw : wordOf ns b with
  | none =>
    rw [hw] at q0
    refine ⟨rfl, ?_⟩
    (with_reducible refine w_bl ?_)
    refine w_decT rfl ?_
    (with_reducible refine w_ret ?_)
    (with_reducible refine w_c ?_)
    exact q0 rfl H hP (Same.refl _)
  | some v =>
    rw [hw] at q
    have q := q _ rfl
    have wv := (wordOf_val (e := ⟨[], [], []⟩) hP.wf hw).2.2
    have wv1 := wv.1
    have wv2 := wv.2
    refine ⟨rfl, ?_⟩
    (with_reducible refine w_bl ?_)
    refine w_decF (by intro z; cases z) ?_
    (with_reducible refine w_next ?_)
    (with_reducible refine w_ret ?_)
    (with_reducible refine w_if ?_)
    (with_reducible refine w_test ?_)
    (with_reducible refine w_op ?_)
    (with_reducible refine w_op ?_)
    ((with_reducible refine' w_var ?hv ?_); (case hv => exact rfl))
    (with_reducible refine w_c ?_)
    show rI0 _ (.int v) _ _ _
    (with_reducible refine w_I0 ?_)
    (with_reducible refine w_c ?_)
    (with_reducible refine w_eqI ?_)
    (with_reducible refine w_bl ?_)
    rw [bitAnd_m5]
    by_cases e1 : v % 32 = 0
    · rw [if_pos e1] at q
      refine w_decT e1 ?_
      ((with_reducible refine' w_var ?hv ?_); (case hv => exact rfl))
      exact q H hP (PFr.refl _ _ _)
    · rw [if_neg e1] at q
      refine w_decF e1 ?_
      (with_reducible refine w_md ?_)
      ((with_reducible refine' w_var ?hv ?_); (case hv => exact rfl))
      refine w_kMd ho rfl ?_
      (with_reducible refine w_cons ?_)
      (with_reducible refine w_tup ?_)
      (with_reducible refine w_cons ?_)
      ((with_reducible refine' w_var ?hv ?_); (case hv => exact rfl))
      (with_reducible refine w_cons ?_)
      ((with_reducible refine' w_var ?hv ?_); (case hv => exact rfl))
      (with_reducible refine w_cons ?_)
      (with_reducible refine w_md ?_)
      ((with_reducible refine' w_var ?hv ?_); (case hv => exact rfl))
      refine w_kMd ho rfl ?_
      (with_reducible refine w_cons ?_)
      (with_reducible refine w_op ?_)
      ((with_reducible refine' w_var ?hv ?_); (case hv => exact rfl))
      (with_reducible refine w_c ?_)
      show rI0 _ (.int v) _ _ _
      (with_reducible refine w_I0 ?_)
      (with_reducible refine w_nil ?_)
      rw [bitAnd_m5]
      have wm : W32 (v % 32) := ⟨by omega, by have := Int.emod_lt_of_pos v (show (0 : Int) < 32 by decide); omega⟩
      refine ⟨p, l, d, ns, _, rfl, hP, by omega, wm, fun H1 hP1 f1 => ?_⟩
      (with_reducible refine w_nil ?_)
      obtain ⟨g1, a1, l1⟩ := intern_goes hP.wf (x := .word (v % 32)) wm
      refine w_kTup (by show 3 ≤ sizeLine; decide) fun T H2 nT s2 hT => ?_
      (with_reducible refine w_nil ?_)
      exact ⟨p, l, d, _, T, .op o a (intern ns (.word (v % 32))).2, rfl, hP1.same s2, by omega, hT, ⟨io, Nat.lt_of_lt_of_le ha g1.pre.length_le, g1.lt⟩, fun H' hP' f => q H' hP' ((f1.trans (.of s2)).trans f)⟩
end
end K30


open PySem.W
namespace K30
local macro_rules | `(tactic| walk_at "w1") => `(tactic| first
  | (with_reducible refine w_fld ?_)
  | (with_reducible refine w_md ?_)
  | (with_reducible refine w_par ?_)
  | (with_reducible refine w_eqO ?_)
  | (with_reducible refine w_kget1 ?_)
  | ((with_reducible refine' w_kFld ?hT ?hh ?hm ?hl ?_); (case hT => assumption); (case hh => assumption); (case hm => decide); (case hl => exact rfl)))
theorem sc_Pool_normal : FnScope ["self", "op", "s", "t", "x", "y", "parts", "found", "rule"] ["self", "op", "s", "t"] (defScope s_Pool_normal) := ⟨rfl, rfl, rfl, by decide +kernel, rfl, by decide +kernel, by decide +kernel⟩
def tabG : List (Str × RlF) := [("and", oAnd), ("or", oOr), ("xor", oXor), ("mul", oMul), ("shl", oShift), ("shr", oShift), ("sar", oShift), ("slt", oLess), ("sltu", oLess), ("divu", oDivu), ("remu", oRemu)]
theorem isOp_cases {o : Str} (h : IsOp o) : o = "add" ∨ o = "sub" ∨ ∃ G, (o, G) ∈ tabG := by
  obtain ⟨g, hg⟩ := h
  simp only [tab13, List.mem_cons, Prod.mk.injEq, List.not_mem_nil, or_false] at hg
  rcases hg with ⟨rfl, _⟩ | ⟨rfl, _⟩ | ⟨rfl, _⟩ | ⟨rfl, _⟩ | ⟨rfl, _⟩ | ⟨rfl, _⟩ | ⟨rfl, _⟩ | ⟨rfl, _⟩ | ⟨rfl, _⟩ | ⟨rfl, _⟩ | ⟨rfl, _⟩ | ⟨rfl, _⟩ | ⟨rfl, _⟩
  · exact .inl rfl
  · exact .inr (.inl rfl)
  · exact .inr (.inr ⟨oMul, by simp [tabG]⟩)
  · exact .inr (.inr ⟨oAnd, by simp [tabG]⟩)
  · exact .inr (.inr ⟨oOr, by simp [tabG]⟩)
  · exact .inr (.inr ⟨oXor, by simp [tabG]⟩)
  · exact .inr (.inr ⟨oShift, by simp [tabG]⟩)
  · exact .inr (.inr ⟨oShift, by simp [tabG]⟩)
  · exact .inr (.inr ⟨oShift, by simp [tabG]⟩)
  · exact .inr (.inr ⟨oLess, by simp [tabG]⟩)
  · exact .inr (.inr ⟨oLess, by simp [tabG]⟩)
  · exact .inr (.inr ⟨oDivu, by simp [tabG]⟩)
  · exact .inr (.inr ⟨oRemu, by simp [tabG]⟩)
theorem rule_of {o : Str} {G : RlF} (h : (o, G) ∈ tabG) (ns : List Nd) (s t : Nat) : ruleF ns o s t = (G ns o s t).getD (intern ns (.op o s t)) := by
  simp only [tabG, List.mem_cons, Prod.mk.injEq, List.not_mem_nil, or_false] at h
  rcases h with ⟨rfl, rfl⟩ | ⟨rfl, rfl⟩ | ⟨rfl, rfl⟩ | ⟨rfl, rfl⟩ | ⟨rfl, rfl⟩ | ⟨rfl, rfl⟩ | ⟨rfl, rfl⟩ | ⟨rfl, rfl⟩ | ⟨rfl, rfl⟩ | ⟨rfl, rfl⟩ | ⟨rfl, rfl⟩
  · rfl
  · rfl
  · rfl
  · rfl
  · show rShift ns _ s t = _; unfold rShift oShift; cases wordOf ns t <;> rfl
  · show rShift ns _ s t = _; unfold rShift oShift; cases wordOf ns t <;> rfl
  · show rShift ns _ s t = _; unfold rShift oShift; cases wordOf ns t <;> rfl
  · show rLessR ns _ s t = _; unfold rLessR oLess; split <;> rfl
  · show rLessR ns _ s t = _; unfold rLessR oLess; split <;> rfl
  · show rDivR ns s t = _; unfold rDivR oDivu; split <;> rfl
  · show rRemR ns s t = _; unfold rRemR oRemu; split <;> rfl
def spNormal (P : Program) (w : World) (C : Addr) : Sp := fun vs H Q _ => ∃ (p l d : Addr) (ns : List Nd) (o : Str) (s t : Nat), vs = [.ref p, .str o, .int (s : Int), .int (t : Int)] ∧ PoAt P w C H p l d ns ∧ ns.length < 99000 ∧ IsOp o ∧ s < ns.length ∧ t < ns.length ∧
  ∀ H', PoAt P w C H' p l d (normalF ns o s t).1 → PFr l d H H' → Q (.int ((normalF ns o s t).2 : Nat)) H'
theorem normalF_not {ns : List Nd} {o : Str} {a b : Nat} (nb : ¬ ∃ x y, wordOf ns a = some x ∧ wordOf ns b = some y) : normalF ns o a b = match partsOf o a b (wordOf ns a) (wordOf ns b) with
    | some ps => if (tS ns ps).length ≤ 12 then sumR ns (tB ns ps % M32) (tS ns ps) else ruleF ns o a b
    | none => ruleF ns o a b := by
  unfold normalF
  cases hx : wordOf ns a with
  | none => rfl
  | some x =>
    cases hy : wordOf ns b with
    | none => rfl
    | some y => exact absurd ⟨x, y, hx, hy⟩ nb
theorem normalF_sum {ns : List Nd} {o : Str} {a b : Nat} (nb : ¬ ∃ x y, wordOf ns a = some x ∧ wordOf ns b = some y) {ps : List (Nat × Int)} (h : partsOf o a b (wordOf ns a) (wordOf ns b) = some ps) (l : (tS ns ps).length ≤ 12) : normalF ns o a b = sumR ns (tB ns ps % M32) (tS ns ps) := by
  rw [normalF_not nb, h]
  exact if_pos l
theorem normalF_long {ns : List Nd} {o : Str} {a b : Nat} (nb : ¬ ∃ x y, wordOf ns a = some x ∧ wordOf ns b = some y) {ps : List (Nat × Int)} (h : partsOf o a b (wordOf ns a) (wordOf ns b) = some ps) (l : 12 < (tS ns ps).length) : normalF ns o a b = ruleF ns o a b := by
  rw [normalF_not nb, h]
  exact if_neg (by omega)
theorem normalF_none {ns : List Nd} {o : Str} {a b : Nat} (nb : ¬ ∃ x y, wordOf ns a = some x ∧ wordOf ns b = some y) (h : partsOf o a b (wordOf ns a) (wordOf ns b) = none) : normalF ns o a b = ruleF ns o a b := by
  rw [normalF_not nb, h]
theorem parts_w32 {ns : List Nd} {o : Str} {s t : Nat} (W : PWf ns) {ps : List (Nat × Int)} (h : partsOf o s t (wordOf ns s) (wordOf ns t) = some ps) : ps.length ≤ 2 ∧ ∀ p ∈ ps, W32 p.2 := by
  have w1 : W32 1 := ⟨by decide, by decide⟩
  unfold partsOf at h
  by_cases h1 : o = "add"
  · rw [if_pos h1] at h
    cases h
    exact ⟨Nat.le_refl _, fun p hp => by simp only [List.mem_cons, List.not_mem_nil, or_false] at hp; rcases hp with rfl | rfl <;> exact w1⟩
  rw [if_neg h1] at h
  by_cases h2 : o = "sub"
  · rw [if_pos h2] at h
    cases h
    exact ⟨Nat.le_refl _, fun p hp => by simp only [List.mem_cons, List.not_mem_nil, or_false] at hp; rcases hp with rfl | rfl; exact w1; exact wTop⟩
  rw [if_neg h2] at h
  by_cases h3 : o = "mul"
  · rw [if_pos h3] at h
    cases hy : wordOf ns t with
    | some w =>
      rw [hy] at h
      cases h
      exact ⟨by show 1 ≤ 2; decide, fun p hp => by obtain rfl := List.mem_singleton.mp hp; exact (wordOf_val (e := ⟨[], [], []⟩) W hy).2.2⟩
    | none =>
      rw [hy] at h
      cases hx : wordOf ns s with
      | none => rw [hx] at h; cases h
      | some w =>
        rw [hx] at h
        cases h
        exact ⟨by show 1 ≤ 2; decide, fun p hp => by obtain rfl := List.mem_singleton.mp hp; exact (wordOf_val (e := ⟨[], [], []⟩) W hx).2.2⟩
  rw [if_neg h3] at h
  by_cases h4 : o = "shl"
  · rw [if_pos h4] at h
    cases hy : wordOf ns t with
    | none => rw [hy] at h; cases h
    | some w =>
      rw [hy] at h
      cases h
      have := pow2_lt (n := (w % 32).toNat) (by have := Int.emod_lt_of_pos w (show (0 : Int) < 32 by decide); have := Int.emod_nonneg w (show (32 : Int) ≠ 0 by decide); omega)
      exact ⟨by show 1 ≤ 2; decide, fun p hp => by obtain rfl := List.mem_singleton.mp hp; exact ⟨by show 0 ≤ (2 : Int) ^ _; omega, this.2⟩⟩
  rw [if_neg h4] at h
  cases h
theorem w_andN {b1 : Bool} {nb P1 A T : Prop} (h0 : b1 = false → nb) (h1 : b1 = true → (nb → T) → P1) (hT : nb → T) : if b1 = true then P1 else if false = true then A else T := by
  cases b1 with
  | true => exact h1 rfl hT
  | false => exact hT (h0 rfl)
section
variable {P : Program} {w : World} {K : PySem.W.Frag} {mg : Str → Option Value} {base : Heap} {C_Pool : Addr}
theorem ok_Pool_normal {RU : Addr} (gRU : GV mg "RULES" (.ref RU)) (none2 : ∀ o : Str, o = "add" ∨ o = "sub" → KGet K w RU o none) (rulesG : ∀ p ∈ tabG, ∃ f, KGet K w RU p.1 (some (.ref f)) ∧ Held P w K mg base 4 f (spRl P w C_Pool p.2)) (c_plain_op : Cd P w K mg base 1 "plain_op" spPlain) (c_compute : Cd P w K mg base 3 "compute" spComp) (m_Pool_word_of : Md P w K mg base 1 C_Pool "word_of" (spWordOf P w C_Pool)) (m_Pool_word : Md P w K mg base 2 C_Pool "word" (spWordP P w C_Pool)) (m_Pool_parts_of_operation : Md P w K mg base 2 C_Pool "parts_of_operation" (spParts P w C_Pool)) (m_Pool_total : Md P w K mg base 4 C_Pool "total" (spTotal P w C_Pool)) (m_Pool_term : Md P w K mg base 1 C_Pool "term" (spTerm P w C_Pool)) (T_Pool : Ob K C_Pool poN) (Z : StM K C_Pool "normal" "Pool.normal" s_Pool_normal ["self", "op", "s", "t"]) : Md P w K mg base 5 C_Pool "normal" (spNormal P w C_Pool) := by
  refine Z.md sc_Pool_normal (fun vs H Q E h => by obtain ⟨p, l, d, ns, o, s, t, rfl, _⟩ := h; rfl) (fun f cdv A outer s H vs Q E hr h => ?_)
  obtain ⟨p, l, d, ns, o, a, b, rfl, hP, hn, io, ha, hb, q⟩ := h
  have hu := hu_of hr
  refine ⟨_, (pss_cons (ps_set (i := 1) sc_Pool_normal.nd rfl (.inl rfl) (pe_cd c_plain_op hr (by first | decide | omega) (by rfl) (pa_cons (pv 1) pa_nil)))
      (pss_cons (ps_par (i := 4) (j := 5) rfl sc_Pool_normal.nd rfl rfl (by decide) rfl rfl (pa_cons (pe_md T_Pool.cl m_Pool_word_of hr (by first | decide | omega) (pv 0) (pa_cons (pv 2) pa_nil)) (pa_cons (pe_md T_Pool.cl m_Pool_word_of hr (by first | decide | omega) (pv 0) (pa_cons (pv 3) pa_nil)) pa_nil)) (by rfl))
      (pss_cons (ps_if (PW.pt (pw_and (pt_cmpR op_notNQ (pv 4) pe_non (nomark _)) (pw_and1 (pt_cmpR op_notNQ (pv 5) pe_non (nomark _))))) (pss_one (ps_ret (pe_md T_Pool.cl m_Pool_word hr (by first | decide | omega) (pv 0) (pa_cons (pe_cd c_compute hr (by first | decide | omega) (by rfl) (pa_cons (pv 1) (pa_cons (pv 4) (pa_cons (pv 5) pa_nil)))) pa_nil)))) pss_nil)
      (pss_cons (ps_set (i := 6) sc_Pool_normal.nd rfl (.inl rfl) (pe_md T_Pool.cl m_Pool_parts_of_operation hr (by first | decide | omega) (pv 0) (pa_cons (pv 1) (pa_cons (pv 2) (pa_cons (pv 3) pa_nil)))))
      (pss_cons (ps_set (i := 7) sc_Pool_normal.nd rfl (.inl rfl) (pe_ifExp (pt_cmpR op_isNQ (pv 6) pe_non (nomark _)) pe_non (pe_md T_Pool.cl m_Pool_total hr (by first | decide | omega) (pv 0) (pa_cons pe_int (pa_cons (pv 6) pa_nil)))))
      (pss_cons (ps_if (pt_cmpR op_notNQ (pv 7) pe_non (nomark _)) (pss_one (ps_ret (pv 7))) pss_nil)
      (pss_cons (ps_set (i := 8) sc_Pool_normal.nd rfl (.inl rfl) (pe_kget1 (pe_gv (by rfl) gRU) (pv 1)))
      (pss_cons (ps_set (i := 7) sc_Pool_normal.nd rfl (.inl rfl) (pe_ifExp (pt_cmpR op_isNQ (pv 8) pe_non (nomark _)) pe_non (pe_callZ (i := 8) hr rfl (Or.inl rfl) (pa_cons (pv 0) (pa_cons (pv 1) (pa_cons (pv 2) (pa_cons (pv 3) pa_nil)))))))
      (pss_one (ps_ret (pe_ifExp (pt_cmpR op_isNQ (pv 7) pe_non (nomark _)) (pe_md T_Pool.cl m_Pool_term hr (by first | decide | omega) (pv 0) (pa_cons (pe_tup (pa_cons (pv 1) (pa_cons (pv 2) (pa_cons (pv 3) pa_nil)))) pa_nil)) (pv 7)))))))))))), ?_⟩
  obtain ⟨dx, ho⟩ := hP.ob
  (with_reducible refine w_seq ?_)
  (with_reducible refine w_asg ?_)
  (with_reducible refine w_call ?_)
  (with_reducible refine w_cons ?_)
  ((with_reducible refine' w_var ?hv ?_); (case hv => exact rfl))
  (with_reducible refine w_nil ?_)
  have pl : plR o o := .inl ⟨rfl, by obtain ⟨g, hg⟩ := io; exact List.mem_map.mpr ⟨(o, g), hg, rfl⟩⟩
  refine ⟨o, o, rfl, pl, ?_⟩
  (with_reducible refine w_name ?_)
  (with_reducible refine w_seq ?_)
  (with_reducible refine w_par ?_)
  (with_reducible refine w_cons ?_)
  (with_reducible refine w_md ?_)
  ((with_reducible refine' w_var ?hv ?_); (case hv => exact rfl))
  refine w_kMd ho rfl ?_
  (with_reducible refine w_cons ?_)
  ((with_reducible refine' w_var ?hv ?_); (case hv => exact rfl))
  (with_reducible refine w_nil ?_)
  refine ⟨p, l, d, ns, _, rfl, hP, ha, ?_⟩
  (with_reducible refine w_cons ?_)
  (with_reducible refine w_md ?_)
  ((with_reducible refine' w_var ?hv ?_); (case hv => exact rfl))
  refine w_kMd ho rfl ?_
  (with_reducible refine w_cons ?_)
  ((with_reducible refine' w_var ?hv ?_); (case hv => exact rfl))
  (with_reducible refine w_nil ?_)
  refine ⟨p, l, d, ns, _, rfl, hP, hb, ?_⟩
  (with_reducible refine w_nil ?_)
  refine ⟨_, _, rfl, ?_⟩
  (with_reducible refine w_seq ?_)
  (with_reducible refine w_ifS ?_)
  (with_reducible refine w_andT ?_)
  (with_reducible refine w_test ?_)
  (with_reducible refine w_op ?_)
  ((with_reducible refine' w_var ?hv ?_); (case hv => exact rfl))
  (with_reducible refine w_c ?_)
  refine ⟨rfl, ?_⟩
  (with_reducible refine w_bl ?_)
  refine w_andN (nb := ¬ ∃ x y, wordOf ns a = some x ∧ wordOf ns b = some y) (fun e => ?_) (fun e tl => ?_) fun nb => ?_
  · rintro ⟨x, y, h1, _⟩
    rw [h1] at e
    simp [optV] at e
  · cases hx : wordOf ns a with
    | none => rw [hx] at e; simp [optV] at e
    | some x =>
      rw [hx] at tl
      (with_reducible refine w_test ?_)
      (with_reducible refine w_op ?_)
      ((with_reducible refine' w_var ?hv ?_); (case hv => exact rfl))
      (with_reducible refine w_c ?_)
      refine ⟨rfl, ?_⟩
      (with_reducible refine w_bl ?_)
      cases hy : wordOf ns b with
      | none =>
        rw [hy] at tl
        refine w_ndecF rfl ?_
        refine tl ?_
        rintro ⟨_, y, _, h⟩
        cases h
      | some y =>
        refine w_ndecT (by intro z; cases z) ?_
        (with_reducible refine w_ret ?_)
        (with_reducible refine w_md ?_)
        ((with_reducible refine' w_var ?hv ?_); (case hv => exact rfl))
        refine w_kMd ho rfl ?_
        (with_reducible refine w_cons ?_)
        (with_reducible refine w_call ?_)
        (with_reducible refine w_cons ?_)
        ((with_reducible refine' w_var ?hv ?_); (case hv => exact rfl))
        (with_reducible refine w_cons ?_)
        ((with_reducible refine' w_var ?hv ?_); (case hv => exact rfl))
        (with_reducible refine w_cons ?_)
        ((with_reducible refine' w_var ?hv ?_); (case hv => exact rfl))
        (with_reducible refine w_nil ?_)
        have wx := (wordOf_val (e := ⟨[], [], []⟩) hP.wf hx).2.2
        have wy := (wordOf_val (e := ⟨[], [], []⟩) hP.wf hy).2.2
        obtain ⟨g, hg⟩ := id io
        refine ⟨o, g, x, y, rfl, List.mem_append_left _ hg, wx, wy, ?_⟩
        (with_reducible refine w_nil ?_)
        have en : normalF ns o a b = intern ns (.word (g x y)) := by unfold normalF; rw [hx, hy, ← opF_of hg]
        rw [en] at q
        exact ⟨p, l, d, ns, _, rfl, hP, by omega, word_of hg wx wy, q⟩
  · (with_reducible refine w_next ?_)
    (with_reducible refine w_seq ?_)
    (with_reducible refine w_asg ?_)
    (with_reducible refine w_md ?_)
    ((with_reducible refine' w_var ?hv ?_); (case hv => exact rfl))
    refine w_kMd ho rfl ?_
    (with_reducible refine w_cons ?_)
    ((with_reducible refine' w_var ?hv ?_); (case hv => exact rfl))
    (with_reducible refine w_cons ?_)
    ((with_reducible refine' w_var ?hv ?_); (case hv => exact rfl))
    (with_reducible refine w_cons ?_)
    ((with_reducible refine' w_var ?hv ?_); (case hv => exact rfl))
    (with_reducible refine w_nil ?_)
    refine ⟨p, l, d, ns, o, a, b, rfl, hP, ha, hb, fun h0 => ?_, fun ps L H2 h0 hL s2 => ?_⟩
    · (with_reducible refine w_name ?_)
      (with_reducible refine w_seq ?_)
      (with_reducible refine w_asg ?_)
      (with_reducible refine w_if ?_)
      (with_reducible refine w_test ?_)
      (with_reducible refine w_op ?_)
      ((with_reducible refine' w_var ?hv ?_); (case hv => exact rfl))
      (with_reducible refine w_c ?_)
      refine ⟨rfl, ?_⟩
      (with_reducible refine w_bl ?_)
      refine w_decT rfl ?_
      (with_reducible refine w_c ?_)
      (with_reducible refine w_name ?_)
      (with_reducible refine w_seq ?_)
      (with_reducible refine w_ifS ?_)
      (with_reducible refine w_test ?_)
      (with_reducible refine w_op ?_)
      ((with_reducible refine' w_var ?hv ?_); (case hv => exact rfl))
      (with_reducible refine w_c ?_)
      refine ⟨rfl, ?_⟩
      (with_reducible refine w_bl ?_)
      refine w_ndecF rfl ?_
      (with_reducible refine w_next ?_)
      (with_reducible refine w_seq ?_)
      (with_reducible refine w_asg ?_)
      (with_reducible refine w_kget1 ?_)
      (with_reducible refine w_c ?_)
      have er : normalF ns o a b = ruleF ns o a b := normalF_none nb h0
      rw [er] at q
      have hg : ∃ r, KGet K w RU o r := by
        rcases isOp_cases io with e | e | ⟨G, hG⟩
        · exact ⟨none, none2 o (.inl e)⟩
        · exact ⟨none, none2 o (.inr e)⟩
        · obtain ⟨f, k, _⟩ := rulesG _ hG; exact ⟨_, k⟩
      obtain ⟨r0, k0⟩ := hg
      refine ⟨RU, rfl, ⟨o, r0, k0⟩, ?_⟩
      ((with_reducible refine' w_var ?hv ?_); (case hv => exact rfl))
      have fin : ∀ {H5 : Hp}, Same H H5 → (ruleF ns o a b = intern ns (.op o a b)) → ∀ {T : Addr}, H5 T = some (.tup [.str o, .int (a : Int), .int (b : Int)]) → spTerm P w C_Pool [.ref p, .ref T] H5 Q E0 := fun {H5} s5 e {T} hT => by
        rw [e] at q
        exact ⟨p, l, d, ns, T, .op o a b, rfl, hP.same s5, by omega, hT, ⟨io, ha, hb⟩, fun H' hP' f => q H' hP' ((PFr.of s5).trans f)⟩
      rcases isOp_cases io with e | e | ⟨G, hG⟩
      · refine ⟨o, none, rfl, none2 o (.inl e), ?_⟩
        (with_reducible refine w_name ?_)
        (with_reducible refine w_seq ?_)
        (with_reducible refine w_asg ?_)
        (with_reducible refine w_if ?_)
        (with_reducible refine w_test ?_)
        (with_reducible refine w_op ?_)
        ((with_reducible refine' w_var ?hv ?_); (case hv => exact rfl))
        (with_reducible refine w_c ?_)
        refine ⟨rfl, ?_⟩
        (with_reducible refine w_bl ?_)
        refine w_decT rfl ?_
        (with_reducible refine w_c ?_)
        (with_reducible refine w_name ?_)
        (with_reducible refine w_ret ?_)
        (with_reducible refine w_if ?_)
        (with_reducible refine w_test ?_)
        (with_reducible refine w_op ?_)
        ((with_reducible refine' w_var ?hv ?_); (case hv => exact rfl))
        (with_reducible refine w_c ?_)
        refine ⟨rfl, ?_⟩
        (with_reducible refine w_bl ?_)
        refine w_decT rfl ?_
        (with_reducible refine w_md ?_)
        ((with_reducible refine' w_var ?hv ?_); (case hv => exact rfl))
        refine w_kMd ho rfl ?_
        (with_reducible refine w_cons ?_)
        (with_reducible refine w_tup ?_)
        (with_reducible refine w_cons ?_)
        ((with_reducible refine' w_var ?hv ?_); (case hv => exact rfl))
        (with_reducible refine w_cons ?_)
        ((with_reducible refine' w_var ?hv ?_); (case hv => exact rfl))
        (with_reducible refine w_cons ?_)
        ((with_reducible refine' w_var ?hv ?_); (case hv => exact rfl))
        (with_reducible refine w_nil ?_)
        refine w_kTup (by show 3 ≤ sizeLine; decide) fun T H5 nT s5 hT => ?_
        (with_reducible refine w_nil ?_)
        exact fin (s5) (by rw [e]; rfl) hT
      · refine ⟨o, none, rfl, none2 o (.inr e), ?_⟩
        (with_reducible refine w_name ?_)
        (with_reducible refine w_seq ?_)
        (with_reducible refine w_asg ?_)
        (with_reducible refine w_if ?_)
        (with_reducible refine w_test ?_)
        (with_reducible refine w_op ?_)
        ((with_reducible refine' w_var ?hv ?_); (case hv => exact rfl))
        (with_reducible refine w_c ?_)
        refine ⟨rfl, ?_⟩
        (with_reducible refine w_bl ?_)
        refine w_decT rfl ?_
        (with_reducible refine w_c ?_)
        (with_reducible refine w_name ?_)
        (with_reducible refine w_ret ?_)
        (with_reducible refine w_if ?_)
        (with_reducible refine w_test ?_)
        (with_reducible refine w_op ?_)
        ((with_reducible refine' w_var ?hv ?_); (case hv => exact rfl))
        (with_reducible refine w_c ?_)
        refine ⟨rfl, ?_⟩
        (with_reducible refine w_bl ?_)
        refine w_decT rfl ?_
        (with_reducible refine w_md ?_)
        ((with_reducible refine' w_var ?hv ?_); (case hv => exact rfl))
        refine w_kMd ho rfl ?_
        (with_reducible refine w_cons ?_)
        (with_reducible refine w_tup ?_)
        (with_reducible refine w_cons ?_)
        ((with_reducible refine' w_var ?hv ?_); (case hv => exact rfl))
        (with_reducible refine w_cons ?_)
        ((with_reducible refine' w_var ?hv ?_); (case hv => exact rfl))
        (with_reducible refine w_cons ?_)
        ((with_reducible refine' w_var ?hv ?_); (case hv => exact rfl))
        (with_reducible refine w_nil ?_)
        refine w_kTup (by show 3 ≤ sizeLine; decide) fun T H5 nT s5 hT => ?_
        (with_reducible refine w_nil ?_)
        exact fin (s5) (by rw [e]; rfl) hT
      · obtain ⟨f, k, hf⟩ : ∃ f, KGet K w RU o (some (.ref f)) ∧ Held P w K mg base 4 f (spRl P w C_Pool G) := rulesG _ hG
        have rr := rule_of hG ns a b
        refine ⟨o, some (.ref f), rfl, k, ?_⟩
        (with_reducible refine w_name ?_)
        (with_reducible refine w_seq ?_)
        (with_reducible refine w_asg ?_)
        (with_reducible refine w_if ?_)
        (with_reducible refine w_test ?_)
        (with_reducible refine w_op ?_)
        ((with_reducible refine' w_var ?hv ?_); (case hv => exact rfl))
        (with_reducible refine w_c ?_)
        refine ⟨rfl, ?_⟩
        (with_reducible refine w_bl ?_)
        refine w_decF (by intro z; cases z) ?_
        skip
        refine w_callZ rfl hf ?_
        (with_reducible refine w_cons ?_)
        ((with_reducible refine' w_var ?hv ?_); (case hv => exact rfl))
        (with_reducible refine w_cons ?_)
        ((with_reducible refine' w_var ?hv ?_); (case hv => exact rfl))
        (with_reducible refine w_cons ?_)
        ((with_reducible refine' w_var ?hv ?_); (case hv => exact rfl))
        (with_reducible refine w_cons ?_)
        ((with_reducible refine' w_var ?hv ?_); (case hv => exact rfl))
        (with_reducible refine w_nil ?_)
        refine ⟨p, l, d, ns, o, a, b, rfl, hP, hn, io, ha, hb, fun g0 H5 hP5 s5 => ?_, fun r g0 H5 hP5 f5 => ?_⟩
        · (with_reducible refine w_name ?_)
          (with_reducible refine w_ret ?_)
          (with_reducible refine w_if ?_)
          (with_reducible refine w_test ?_)
          (with_reducible refine w_op ?_)
          ((with_reducible refine' w_var ?hv ?_); (case hv => exact rfl))
          (with_reducible refine w_c ?_)
          refine ⟨rfl, ?_⟩
          (with_reducible refine w_bl ?_)
          refine w_decT rfl ?_
          (with_reducible refine w_md ?_)
          ((with_reducible refine' w_var ?hv ?_); (case hv => exact rfl))
          refine w_kMd (s5 _ _ ho) rfl ?_
          (with_reducible refine w_cons ?_)
          (with_reducible refine w_tup ?_)
          (with_reducible refine w_cons ?_)
          ((with_reducible refine' w_var ?hv ?_); (case hv => exact rfl))
          (with_reducible refine w_cons ?_)
          ((with_reducible refine' w_var ?hv ?_); (case hv => exact rfl))
          (with_reducible refine w_cons ?_)
          ((with_reducible refine' w_var ?hv ?_); (case hv => exact rfl))
          (with_reducible refine w_nil ?_)
          refine w_kTup (by show 3 ≤ sizeLine; decide) fun T H6 nT s6 hT => ?_
          (with_reducible refine w_nil ?_)
          exact fin (s5.trans s6) (by rw [rr, g0]; rfl) hT
        · (with_reducible refine w_name ?_)
          (with_reducible refine w_ret ?_)
          (with_reducible refine w_if ?_)
          (with_reducible refine w_test ?_)
          (with_reducible refine w_op ?_)
          ((with_reducible refine' w_var ?hv ?_); (case hv => exact rfl))
          (with_reducible refine w_c ?_)
          refine ⟨rfl, ?_⟩
          (with_reducible refine w_bl ?_)
          refine w_decF (by intro z; cases z) ?_
          ((with_reducible refine' w_var ?hv ?_); (case hv => exact rfl))
          rw [rr, g0] at q
          exact q H5 hP5 (f5)
    · (with_reducible refine w_name ?_)
      (with_reducible refine w_seq ?_)
      (with_reducible refine w_asg ?_)
      (with_reducible refine w_if ?_)
      (with_reducible refine w_test ?_)
      (with_reducible refine w_op ?_)
      ((with_reducible refine' w_var ?hv ?_); (case hv => exact rfl))
      (with_reducible refine w_c ?_)
      refine ⟨rfl, ?_⟩
      (with_reducible refine w_bl ?_)
      refine w_decF (by intro z; cases z) ?_
      (with_reducible refine w_md ?_)
      ((with_reducible refine' w_var ?hv ?_); (case hv => exact rfl))
      refine w_kMd (s2 _ _ ho) rfl ?_
      (with_reducible refine w_cons ?_)
      (with_reducible refine w_c ?_)
      (with_reducible refine w_cons ?_)
      ((with_reducible refine' w_var ?hv ?_); (case hv => exact rfl))
      (with_reducible refine w_nil ?_)
      obtain ⟨kps, vps⟩ := parts_val hP.wf ha hb h0
      obtain ⟨lps, wps⟩ := parts_w32 hP.wf h0
      refine ⟨p, l, d, ns, 0, L, ps, rfl, hP.same s2, by omega, hL, by omega, fun z hz => ⟨kps z hz, wps z hz⟩, w0, fun l12 H3 hP3 s3 => ?_, fun l12 H3 hP3 f3 => ?_⟩
      · (with_reducible refine w_name ?_)
        (with_reducible refine w_seq ?_)
        (with_reducible refine w_ifS ?_)
        (with_reducible refine w_test ?_)
        (with_reducible refine w_op ?_)
        ((with_reducible refine' w_var ?hv ?_); (case hv => exact rfl))
        (with_reducible refine w_c ?_)
        refine ⟨rfl, ?_⟩
        (with_reducible refine w_bl ?_)
        refine w_ndecF rfl ?_
        (with_reducible refine w_next ?_)
        (with_reducible refine w_seq ?_)
        (with_reducible refine w_asg ?_)
        (with_reducible refine w_kget1 ?_)
        (with_reducible refine w_c ?_)
        have s23 := s2.trans s3
        have ho3 := s23 _ _ ho
        have er : normalF ns o a b = ruleF ns o a b := normalF_long nb h0 l12
        rw [er] at q
        have hg : ∃ r, KGet K w RU o r := by
          rcases isOp_cases io with e | e | ⟨G, hG⟩
          · exact ⟨none, none2 o (.inl e)⟩
          · exact ⟨none, none2 o (.inr e)⟩
          · obtain ⟨f, k, _⟩ := rulesG _ hG; exact ⟨_, k⟩
        obtain ⟨r0, k0⟩ := hg
        refine ⟨RU, rfl, ⟨o, r0, k0⟩, ?_⟩
        ((with_reducible refine' w_var ?hv ?_); (case hv => exact rfl))
        have fin : ∀ {H5 : Hp}, Same H H5 → (ruleF ns o a b = intern ns (.op o a b)) → ∀ {T : Addr}, H5 T = some (.tup [.str o, .int (a : Int), .int (b : Int)]) → spTerm P w C_Pool [.ref p, .ref T] H5 Q E0 := fun {H5} s5 e {T} hT => by
          rw [e] at q
          exact ⟨p, l, d, ns, T, .op o a b, rfl, hP.same s5, by omega, hT, ⟨io, ha, hb⟩, fun H' hP' f => q H' hP' ((PFr.of s5).trans f)⟩
        rcases isOp_cases io with e | e | ⟨G, hG⟩
        · refine ⟨o, none, rfl, none2 o (.inl e), ?_⟩
          (with_reducible refine w_name ?_)
          (with_reducible refine w_seq ?_)
          (with_reducible refine w_asg ?_)
          (with_reducible refine w_if ?_)
          (with_reducible refine w_test ?_)
          (with_reducible refine w_op ?_)
          ((with_reducible refine' w_var ?hv ?_); (case hv => exact rfl))
          (with_reducible refine w_c ?_)
          refine ⟨rfl, ?_⟩
          (with_reducible refine w_bl ?_)
          refine w_decT rfl ?_
          (with_reducible refine w_c ?_)
          (with_reducible refine w_name ?_)
          (with_reducible refine w_ret ?_)
          (with_reducible refine w_if ?_)
          (with_reducible refine w_test ?_)
          (with_reducible refine w_op ?_)
          ((with_reducible refine' w_var ?hv ?_); (case hv => exact rfl))
          (with_reducible refine w_c ?_)
          refine ⟨rfl, ?_⟩
          (with_reducible refine w_bl ?_)
          refine w_decT rfl ?_
          (with_reducible refine w_md ?_)
          ((with_reducible refine' w_var ?hv ?_); (case hv => exact rfl))
          refine w_kMd ho3 rfl ?_
          (with_reducible refine w_cons ?_)
          (with_reducible refine w_tup ?_)
          (with_reducible refine w_cons ?_)
          ((with_reducible refine' w_var ?hv ?_); (case hv => exact rfl))
          (with_reducible refine w_cons ?_)
          ((with_reducible refine' w_var ?hv ?_); (case hv => exact rfl))
          (with_reducible refine w_cons ?_)
          ((with_reducible refine' w_var ?hv ?_); (case hv => exact rfl))
          (with_reducible refine w_nil ?_)
          refine w_kTup (by show 3 ≤ sizeLine; decide) fun T H5 nT s5 hT => ?_
          (with_reducible refine w_nil ?_)
          exact fin (s23.trans s5) (by rw [e]; rfl) hT
        · refine ⟨o, none, rfl, none2 o (.inr e), ?_⟩
          (with_reducible refine w_name ?_)
          (with_reducible refine w_seq ?_)
          (with_reducible refine w_asg ?_)
          (with_reducible refine w_if ?_)
          (with_reducible refine w_test ?_)
          (with_reducible refine w_op ?_)
          ((with_reducible refine' w_var ?hv ?_); (case hv => exact rfl))
          (with_reducible refine w_c ?_)
          refine ⟨rfl, ?_⟩
          (with_reducible refine w_bl ?_)
          refine w_decT rfl ?_
          (with_reducible refine w_c ?_)
          (with_reducible refine w_name ?_)
          (with_reducible refine w_ret ?_)
          (with_reducible refine w_if ?_)
          (with_reducible refine w_test ?_)
          (with_reducible refine w_op ?_)
          ((with_reducible refine' w_var ?hv ?_); (case hv => exact rfl))
          (with_reducible refine w_c ?_)
          refine ⟨rfl, ?_⟩
          (with_reducible refine w_bl ?_)
          refine w_decT rfl ?_
          (with_reducible refine w_md ?_)
          ((with_reducible refine' w_var ?hv ?_); (case hv => exact rfl))
          refine w_kMd ho3 rfl ?_
          (with_reducible refine w_cons ?_)
          (with_reducible refine w_tup ?_)
          (with_reducible refine w_cons ?_)
          ((with_reducible refine' w_var ?hv ?_); (case hv => exact rfl))
          (with_reducible refine w_cons ?_)
          ((with_reducible refine' w_var ?hv ?_); (case hv => exact rfl))
          (with_reducible refine w_cons ?_)
          ((with_reducible refine' w_var ?hv ?_); (case hv => exact rfl))
          (with_reducible refine w_nil ?_)
          refine w_kTup (by show 3 ≤ sizeLine; decide) fun T H5 nT s5 hT => ?_
          (with_reducible refine w_nil ?_)
          exact fin (s23.trans s5) (by rw [e]; rfl) hT
        · obtain ⟨f, k, hf⟩ : ∃ f, KGet K w RU o (some (.ref f)) ∧ Held P w K mg base 4 f (spRl P w C_Pool G) := rulesG _ hG
          have rr := rule_of hG ns a b
          refine ⟨o, some (.ref f), rfl, k, ?_⟩
          (with_reducible refine w_name ?_)
          (with_reducible refine w_seq ?_)
          (with_reducible refine w_asg ?_)
          (with_reducible refine w_if ?_)
          (with_reducible refine w_test ?_)
          (with_reducible refine w_op ?_)
          ((with_reducible refine' w_var ?hv ?_); (case hv => exact rfl))
          (with_reducible refine w_c ?_)
          refine ⟨rfl, ?_⟩
          (with_reducible refine w_bl ?_)
          refine w_decF (by intro z; cases z) ?_
          skip
          refine w_callZ rfl hf ?_
          (with_reducible refine w_cons ?_)
          ((with_reducible refine' w_var ?hv ?_); (case hv => exact rfl))
          (with_reducible refine w_cons ?_)
          ((with_reducible refine' w_var ?hv ?_); (case hv => exact rfl))
          (with_reducible refine w_cons ?_)
          ((with_reducible refine' w_var ?hv ?_); (case hv => exact rfl))
          (with_reducible refine w_cons ?_)
          ((with_reducible refine' w_var ?hv ?_); (case hv => exact rfl))
          (with_reducible refine w_nil ?_)
          refine ⟨p, l, d, ns, o, a, b, rfl, hP3, hn, io, ha, hb, fun g0 H5 hP5 s5 => ?_, fun r g0 H5 hP5 f5 => ?_⟩
          · (with_reducible refine w_name ?_)
            (with_reducible refine w_ret ?_)
            (with_reducible refine w_if ?_)
            (with_reducible refine w_test ?_)
            (with_reducible refine w_op ?_)
            ((with_reducible refine' w_var ?hv ?_); (case hv => exact rfl))
            (with_reducible refine w_c ?_)
            refine ⟨rfl, ?_⟩
            (with_reducible refine w_bl ?_)
            refine w_decT rfl ?_
            (with_reducible refine w_md ?_)
            ((with_reducible refine' w_var ?hv ?_); (case hv => exact rfl))
            refine w_kMd (s5 _ _ ho3) rfl ?_
            (with_reducible refine w_cons ?_)
            (with_reducible refine w_tup ?_)
            (with_reducible refine w_cons ?_)
            ((with_reducible refine' w_var ?hv ?_); (case hv => exact rfl))
            (with_reducible refine w_cons ?_)
            ((with_reducible refine' w_var ?hv ?_); (case hv => exact rfl))
            (with_reducible refine w_cons ?_)
            ((with_reducible refine' w_var ?hv ?_); (case hv => exact rfl))
            (with_reducible refine w_nil ?_)
            refine w_kTup (by show 3 ≤ sizeLine; decide) fun T H6 nT s6 hT => ?_
            (with_reducible refine w_nil ?_)
            exact fin (s23.trans (s5.trans s6)) (by rw [rr, g0]; rfl) hT
          · (with_reducible refine w_name ?_)
            (with_reducible refine w_ret ?_)
            (with_reducible refine w_if ?_)
            (with_reducible refine w_test ?_)
            (with_reducible refine w_op ?_)
            ((with_reducible refine' w_var ?hv ?_); (case hv => exact rfl))
            (with_reducible refine w_c ?_)
            refine ⟨rfl, ?_⟩
            (with_reducible refine w_bl ?_)
            refine w_decF (by intro z; cases z) ?_
            ((with_reducible refine' w_var ?hv ?_); (case hv => exact rfl))
            rw [rr, g0] at q
            exact q H5 hP5 ((PFr.of s23).trans f5)
      · (with_reducible refine w_name ?_)
        (with_reducible refine w_seq ?_)
        (with_reducible refine w_ifS ?_)
        (with_reducible refine w_test ?_)
        (with_reducible refine w_op ?_)
        ((with_reducible refine' w_var ?hv ?_); (case hv => exact rfl))
        (with_reducible refine w_c ?_)
        refine ⟨rfl, ?_⟩
        (with_reducible refine w_bl ?_)
        refine w_ndecT (by intro z; cases z) ?_
        (with_reducible refine w_ret ?_)
        ((with_reducible refine' w_var ?hv ?_); (case hv => exact rfl))
        have er : normalF ns o a b = sumR ns ((0 + tB ns ps) % M32) (tS ns ps) := by
          rw [Int.zero_add]
          exact normalF_sum nb h0 l12
        rw [er] at q
        exact q H3 hP3 ((PFr.of s2).trans f3)
end
end K30


open PySem.W
namespace K30
local macro_rules | `(tactic| walk_at "w1") => `(tactic| first
  | (with_reducible refine w_fld ?_)
  | (with_reducible refine w_md ?_)
  | (with_reducible refine w_dget ?_)
  | (with_reducible refine w_dput ?_)
  | ((with_reducible refine' w_kFld ?hT ?hh ?hm ?hl ?_); (case hT => assumption); (case hh => assumption); (case hm => decide); (case hl => exact rfl)))
theorem sc_parts_of_node : FnScope ["node", "part", "_"] ["node"] (defScope s_parts_of_node) := ⟨rfl, rfl, rfl, by decide +kernel, rfl, by decide +kernel, by decide +kernel⟩
theorem sc_Pool_inside : FnScope ["self", "t", "leaves", "found", "waiting", "number", "part"] ["self", "t", "leaves"] (defScope s_Pool_inside) := ⟨rfl, rfl, rfl, by decide +kernel, rfl, by decide +kernel, by decide +kernel⟩
theorem inV_str (x : Str) : ∀ l : List Str, inV (.str x) (l.map V.str) = decide (x ∈ l)
  | [] => rfl
  | y :: r => by
    have e : inV (.str x) ((y :: r).map V.str) = ((y == x) || inV (.str x) (r.map V.str)) := rfl
    rw [e, inV_str x r, Bool.eq_iff_iff]
    simp only [Bool.or_eq_true, beq_iff_eq, decide_eq_true_eq, List.mem_cons]
    exact ⟨fun h => h.elim (fun z => .inl z.symm) .inr, fun h => h.elim (fun z => .inl z.symm) .inr⟩
abbrev leafN : List Str := ["word", "in", "loose", "load", "get"]
def ndParts : Nd → List Nat
  | .word _ => []
  | .leaf _ _ => []
  | .op _ s t => [s, t]
  | .sum _ ps => ps.map (·.1)
def spPartsN (K : PySem.W.Frag) : Sp := fun vs H Q _ => ∃ (a : Addr) (x : Nd) (ns : List Nd) (j : Nat), vs = [.ref a] ∧ NdAt H a x ∧ x.Ok ns j ∧ ∀ r H', ((H' r = some (.lst ((ndParts x).map fun (k : Nat) => V.int (k : Int))) ∧ H r = none) ∨ SqT K H' r ((ndParts x).map fun (k : Nat) => V.int (k : Int))) → Same H H' → Q (.ref r) H'
section
variable {P : Program} {w : World} {K : PySem.W.Frag} {mg : Str → Option Value} {base : Heap} {C_Pool : Addr}
theorem ok_parts_of_node {LV : Addr} (g_LEAVES : GV mg "LEAVES" (.ref LV)) (hLV : ∀ H, SqT K H LV [.str "word", .str "in", .str "loose", .str "load", .str "get"]) (Z : St1 K mg "parts_of_node" s_parts_of_node ["node"]) : Cd P w K mg base 1 "parts_of_node" (spPartsN K) := by
  refine Z.cd sc_parts_of_node (fun vs H Q E h => by obtain ⟨a, x, ns, j, rfl, _⟩ := h; rfl) (fun f cdv A outer s H vs Q E hr h => ?_)
  obtain ⟨a, x, ns, j, rfl, hx, ok, q⟩ := h
  refine ⟨_, (pss_cons (ps_if (pt_cmpR op_in_seq (pe_ix ix_tup (pv 0) pe_int (fun _ _ => rfl)) (pe_gv (by rfl) g_LEAVES) rfl) (pss_one (ps_ret (pe_tup pa_nil))) pss_nil)
      (pss_one (ps_ret (pe_ifExp (pt_cmpR op_eq (pe_ix ix_tup (pv 0) pe_int (fun _ _ => rfl)) pe_str (nomark _)) (pe_lc (own := [("part", 1), ("_", 2)]) rfl sc_parts_of_node.nd (pi_tup (pe_ix ix_tup (pv 0) pe_int (fun _ _ => rfl))) (blkOk_by (own := [("part", 1), ("_", 2)]) (N := ["node", "part", "_"]) (sc := (defScope s_parts_of_node)) (by decide +kernel)) (fun _ _ _ _ _ => (pg_tupK (K' := K) (n := 2) (by rfl) (by rfl) (pgs_cons (pg_name (i := 1) sc_parts_of_node.nd (by rfl) (Or.inl (by rfl)) (by first | exact Or.inl rfl | exact Or.inr rfl)) (pgs_cons (pg_name (i := 2) sc_parts_of_node.nd (by rfl) (Or.inl (by rfl)) (by first | exact Or.inl rfl | exact Or.inr rfl)) pgs_nil)))) (fun _ _ _ _ _ => pts_nil) (fun _ _ _ _ _ => (pv 1))) (pe_slice sl_tupA (pv 0) (po_some pe_int) po_none))))), ?_⟩
  (with_reducible refine w_seq ?_)
  (with_reducible refine w_ifS ?_)
  (with_reducible refine w_test ?_)
  (with_reducible refine w_op ?_)
  (with_reducible refine w_op ?_)
  ((with_reducible refine' w_var ?hv ?_); (case hv => exact rfl))
  (with_reducible refine w_c ?_)
  have lv : ∀ (H' : Hp) (k : Str) (b : Bool) (Q' : VK), decide (k ∈ leafN) = b → Q' (.bl b) H' → rIn K false (.str k) (.ref LV) H' Q' := fun H' k b Q' e h => w_inT (hLV H') rfl rfl (by rw [show ([V.str "word", .str "in", .str "loose", .str "load", .str "get"] : List V) = leafN.map V.str from rfl, inV_str]; exact e) h
  cases x with
  | word v =>
    refine w_ixT hx rfl ?_
    (with_reducible refine w_c ?_)
    refine lv _ _ true _ (by decide) ?_
    (with_reducible refine w_bl ?_)
    (with_reducible refine w_itT ?_)
    (with_reducible refine w_ret ?_)
    (with_reducible refine w_tup ?_)
    (with_reducible refine w_nil ?_)
    refine w_kTup (by show 0 ≤ sizeLine; decide) fun T H1 nT s1 hT => ?_
    exact q T H1 (.inr (.of hT)) s1
  | leaf k n =>
    refine w_ixT hx rfl ?_
    (with_reducible refine w_c ?_)
    refine lv _ _ true _ (by rcases (leaf_name ok).2.2 with rfl | rfl | rfl | rfl <;> decide) ?_
    (with_reducible refine w_bl ?_)
    (with_reducible refine w_itT ?_)
    (with_reducible refine w_ret ?_)
    (with_reducible refine w_tup ?_)
    (with_reducible refine w_nil ?_)
    refine w_kTup (by show 0 ≤ sizeLine; decide) fun T H1 nT s1 hT => ?_
    exact q T H1 (.inr (.of hT)) s1
  | op o s t =>
    refine w_ixT hx rfl ?_
    (with_reducible refine w_c ?_)
    refine lv _ _ false _ (decide_eq_false (by
      have := op_name ok.1
      simp only [leafN, List.mem_cons, List.not_mem_nil, or_false]
      rintro (h | h | h | h | h) <;> simp_all)) ?_
    (with_reducible refine w_bl ?_)
    (with_reducible refine w_itF ?_)
    (with_reducible refine w_next ?_)
    (with_reducible refine w_ret ?_)
    (with_reducible refine w_if ?_)
    (with_reducible refine w_test ?_)
    (with_reducible refine w_op ?_)
    (with_reducible refine w_op ?_)
    ((with_reducible refine' w_var ?hv ?_); (case hv => exact rfl))
    (with_reducible refine w_c ?_)
    ((with_reducible refine' w_ixT ?hh ?ha ?_); (case hh => assumption); (case ha => exact rfl))
    (with_reducible refine w_c ?_)
    (with_reducible refine w_eqS ?_)
    (with_reducible refine w_bl ?_)
    refine w_decF (op_name ok.1).2.1 ?_
    (with_reducible refine w_sl ?_)
    ((with_reducible refine' w_var ?hv ?_); (case hv => exact rfl))
    (with_reducible refine w_part ?_)
    (with_reducible refine w_c ?_)
    (with_reducible refine w_exI ?_)
    (with_reducible refine w_noPart ?_)
    exact w_rSl1 (.of hx) fun r H1 nr s1 hr1 => q r H1 (.inr (.of hr1)) s1
  | sum c ps =>
    obtain ⟨b, ha, rs, hb, pr⟩ := hx
    refine w_ixT ha rfl ?_
    (with_reducible refine w_c ?_)
    refine lv _ _ false _ (by decide) ?_
    (with_reducible refine w_bl ?_)
    (with_reducible refine w_itF ?_)
    (with_reducible refine w_next ?_)
    (with_reducible refine w_ret ?_)
    (with_reducible refine w_if ?_)
    (with_reducible refine w_test ?_)
    (with_reducible refine w_op ?_)
    (with_reducible refine w_op ?_)
    ((with_reducible refine' w_var ?hv ?_); (case hv => exact rfl))
    (with_reducible refine w_c ?_)
    ((with_reducible refine' w_ixT ?hh ?ha ?_); (case hh => assumption); (case ha => exact rfl))
    (with_reducible refine w_c ?_)
    (with_reducible refine w_eqS ?_)
    (with_reducible refine w_bl ?_)
    refine w_decT rfl ?_
    (with_reducible refine w_lc ?_)
    (with_reducible refine w_iT ?_)
    (with_reducible refine w_op ?_)
    ((with_reducible refine' w_var ?hv ?_); (case hv => exact rfl))
    (with_reducible refine w_c ?_)
    ((with_reducible refine' w_ixT ?hh ?ha ?_); (case hh => assumption); (case ha => exact rfl))
    refine w_lcT (rs.map V.ref) (fun D i H' => H D = none ∧ Same H H' ∧ H' D = some (.lst ((ps.take i).map fun p => V.int (p.1 : Int)))) (.of hb) (fun D nD => ⟨nD, Same.new nD, upd_same⟩) (fun D i H' _ h => .of (h.2.1 _ _ hb)) (fun D i x H1 hx h => ?_) (fun D H1 nD h => ?_)
    · obtain ⟨nD, s1, hD⟩ := h
      rw [List.getElem?_map] at hx
      obtain ⟨r, er, rfl⟩ := Option.map_eq_some_iff.mp hx
      have li : i < ps.length := by have := (List.getElem?_eq_some_iff.mp er).1; rw [pr.length] at this; exact this
      obtain ⟨⟨t, fa⟩, et⟩ : ∃ q, ps[i]? = some q := ⟨_, List.getElem?_eq_getElem li⟩
      have hr1 : H r = some (.tup [.int (t : Int), .int fa]) := prd_at pr er et
      refine w_gTup (s1 _ _ hr1) rfl ?_
      (with_reducible refine w_gCons ?_)
      (with_reducible refine w_name ?_)
      (with_reducible refine w_gCons ?_)
      (with_reducible refine w_name ?_)
      (with_reducible refine w_gNil ?_)
      refine ⟨rfl, ?_⟩
      (with_reducible refine w_yes ?_)
      (with_reducible refine w_itT ?_)
      ((with_reducible refine' w_var ?hv ?_); (case hv => exact rfl))
      refine ⟨_, hD, ?_, nD, fun y o hy => ?_, ?_⟩
      · have := ok.1.2.2.2.2.2
        rw [List.length_map, List.length_take]
        exact Nat.lt_of_le_of_lt (Nat.min_le_right _ _) (Nat.lt_of_le_of_lt this (by decide))
      · rw [upd_ne (ne_of_none hy nD)]; exact s1 _ _ hy
      · rw [upd_same, take_more et, List.map_append]; rfl
    · obtain ⟨_, s1, hD⟩ := h
      rw [List.length_map, pr.length, List.take_length] at hD
      refine q D H1 (.inl ⟨?_, nD⟩) s1
      rw [hD]
      show _ = some (HO.lst ((ps.map (·.1)).map _))
      rw [List.map_map]
      rfl
/-- all that a term is made of, itself too -/
inductive In (ns : List Nd) (t : Nat) : Nat → Prop
  | self : In ns t t
  | part {k j : Nat} {x : Nd} : In ns t k → ns[k]? = some x → j ∈ ndParts x → In ns t j
theorem part_lt {ns : List Nd} {k : Nat} {x : Nd} (o : x.Ok ns k) {j : Nat} (h : j ∈ ndParts x) : j < k := by
  cases x with
  | word w => cases h
  | leaf a n => cases h
  | op a s t =>
    simp only [ndParts, List.mem_cons, List.not_mem_nil, or_false] at h
    rcases h with rfl | rfl
    · exact o.2.1
    · exact o.2.2
  | sum c ps =>
    obtain ⟨p, hp, rfl⟩ := List.mem_map.mp h
    exact (o.2 p hp).1
theorem In.le {ns : List Nd} (W : PWf ns) {t k : Nat} (h : In ns t k) : k ≤ t := by
  induction h with
  | self => exact Nat.le_refl _
  | part _ hx hj ih => have := part_lt (W.ok _ _ hx) hj; omega
def spInside (P : Program) (w : World) (C : Addr) : Sp := fun vs H Q _ => ∃ (p l d e : Addr) (ns : List Nd) (t : Nat), vs = [.ref p, .int (t : Int), .ref e] ∧ PoAt P w C H p l d ns ∧ ns.length < 99000 ∧ t < ns.length ∧ H e = some (.dK []) ∧
  ∀ (r : Addr) (zs : List Nat) H', H' r = some (.lst (zs.map fun (k : Nat) => V.int (k : Int))) → zs.Pairwise (· < ·) → (∀ k ∈ zs, k < ns.length) → t ∈ zs → (∀ k ∈ zs, ∀ x, ns[k]? = some x → ∀ j ∈ ndParts x, j ∈ zs) → Same H H' → Q (.ref r) H'
/-- found, as a dict -/
def tD (ks : List Nat) : List (Key × V) := ks.map fun (k : Nat) => (kI (k : Int), V.bl true)
theorem valV_tD (k : Nat) : ∀ ks : List Nat, valV (tD ks) (kI (k : Int)) = if k ∈ ks then some (.bl true) else none
  | [] => rfl
  | j :: r => by
    by_cases e : j = k
    · subst e
      rw [if_pos (List.mem_cons_self ..)]
      exact valV_pos rfl
    · rw [show tD (j :: r) = (kI (j : Int), V.bl true) :: tD r from rfl, valV_neg (fun z => e (kI_inj.mp z)), valV_tD k r]
      simp [Ne.symm e]
theorem putK_tD {k : Nat} {ks : List Nat} (h : k ∉ ks) : putK (tD ks) (kI (k : Int)) (.bl true) = tD (ks ++ [k]) := by
  unfold putK
  rw [valV_any, valV_tD, if_neg h, if_neg (by decide)]
  unfold tD
  rw [List.map_append, List.map_singleton]
theorem w_forLT {A : Prop} {K : PySem.W.Frag} {g : TG} {tb : TS} {D : Ends} {σ : L2.St} {H : Hp} {a : Addr} (xs : List V) (Pv : Nat → L2.St → Hp → Prop) (hA : A → H a = some (.lst xs)) (hS : A ∨ SqT K H a xs) (h0 : Pv 0 σ H) (hl : ∀ i σ' H', i ≤ xs.length → Pv i σ' H' → (A → H' a = some (.lst xs)) ∧ (SqT K H a xs → SqT K H' a xs))
    (hs : ∀ i x σ H, xs[i]? = some x → Pv i σ H → g x σ H fun σ2 H2 => tb { D with nx := Pv (i + 1), ct := Pv (i + 1), bk := D.nx } σ2 H2) (hd : ∀ σ H, Pv xs.length σ H → D.nx σ H) : kILT K (kFor g tb D σ) (.ref a) H := by
  rcases hS with h | h
  · exact kILT.l (w_forL xs Pv (.of (hA h)) h0 (fun i σ' H' li p => .of ((hl i σ' H' li p).1 h)) hs hd)
  · exact kILT.t (w_forT xs Pv h h0 (fun i σ' H' li p => (hl i σ' H' li p).2 h) hs hd)
/-- the state of the search -/
structure Sr (H0 : Hp) (p e fd wl t : Addr) (ns : List Nd) (ks ws : List Nat) (σ : L2.St) (H : Hp) : Prop where
  sm : Same H0 H
  hf : H fd = some (.dK (tD ks))
  hw : H wl = some (.lst (ws.map fun (k : Nat) => V.int (k : Int)))
  nd : ks.Nodup
  lt : ∀ k ∈ ks, k < ns.length
  tk : t ∈ ks
  wk : ∀ k ∈ ws, k ∈ ks
  st : ∃ a5 a6, σ = [some (.ref p), some (.int (t : Int)), some (.ref e), some (.ref fd), some (.ref wl), a5, a6]
theorem nodup_le {ks : List Nat} {n : Nat} (nd : ks.Nodup) (lt : ∀ k ∈ ks, k < n) : ks.length ≤ n := by
  have := List.Nodup.length_le_of_subset nd (l₂ := List.range n) fun k hk => List.mem_range.mpr (lt k hk)
  rwa [List.length_range] at this
theorem w_din {ty td : TE} {σ : L2.St} {H : Hp} {Q : VK} (q : ty σ H fun y H1 => td σ H1 fun x H2 => ∃ a o, x = .ref a ∧ DGet H2 a y o ∧ Q (.bl o.isSome) H2) : tDIn ty td σ H Q := q
theorem w_dnin {ty td : TE} {σ : L2.St} {H : Hp} {Q : VK} (q : ty σ H fun y H1 => td σ H1 fun x H2 => ∃ a o, x = .ref a ∧ DGet H2 a y o ∧ Q (.bl (!o.isSome)) H2) : tDNotIn ty td σ H Q := q
theorem w_bm0 {K : PySem.W.Frag} {T : String} {r : V → List V → Hp → VK → Prop} {to : TE} {σ : L2.St} {H : Hp} {Q : VK} (q : to σ H fun x H1 => tyV K T x H1 ∧ r x [] H1 Q) : tBM0 K T r to σ H Q := q
local macro_rules | `(tactic| walk_at "w1") => `(tactic| first
  | (with_reducible refine w_din ?_)
  | (with_reducible refine w_dnin ?_)
  | (with_reducible refine w_bm0 ?_))
theorem SqT.but {K : PySem.W.Frag} {H H' : Hp} {a : Addr} {xs : List V} (h : SqT K H a xs) (k : ∀ u, H a = some u → (∀ ks, u ≠ .dK ks) → (∀ l, u ≠ .lst l) → H' a = some u) : SqT K H' a xs := by
  rcases h with (h | ⟨o, h⟩) | h
  · exact .inl (.inl (k _ h (by intro _ z; cases z) (by intro _ z; cases z)))
  · exact .inl (.inr ⟨o, k _ h (by intro _ z; cases z) (by intro _ z; cases z)⟩)
  · exact .inr h
theorem w_pop {wl : Addr} {xs : List V} {y : V} {H : Hp} {Q : VK} (h : H wl = some (.lst (xs ++ [y]))) (q : ∀ H', H' wl = some (.lst xs) → But wl H H' → Q y H') : rPop (.ref wl) [] H Q :=
  ⟨wl, _, y, rfl, rfl, h, by simp, q _ (by rw [upd_same, List.dropLast_concat]) But.set⟩
theorem ok_Pool_inside (b_sorted : mg "sorted" = none) (c_parts_of_node : Cd P w K mg base 1 "parts_of_node" (spPartsN K)) (T_Pool : Ob K C_Pool poN) (Z : StM K C_Pool "inside" "Pool.inside" s_Pool_inside ["self", "t", "leaves"]) : Md P w K mg base 2 C_Pool "inside" (spInside P w C_Pool) := by
  refine Z.md sc_Pool_inside (fun vs H Q E h => by obtain ⟨p, l, d, e, ns, t, rfl, _⟩ := h; rfl) (fun f cdv A outer s H vs Q E hr h => ?_)
  obtain ⟨p, l, d, e, ns, t, rfl, hP, hn, ht, he, q⟩ := h
  have hu := hu_of hr
  refine ⟨_, (pss_cons (ps_set (i := 3) sc_Pool_inside.nd rfl (.inl rfl) (pe_disp (pps_cons (pv 1) pe_bl pps_nil) (by rfl) (by rfl) (fun z => by cases z) (by decide)))
      (pss_cons (ps_set (i := 4) sc_Pool_inside.nd rfl (.inl rfl) (pe_lst (pa_cons (pv 1) pa_nil)))
      (pss_cons (ps_while PassesOwn.never (pt_truth (pv 4) (by intro _; rfl)) (pss_cons (ps_set (i := 5) sc_Pool_inside.nd rfl (.inl rfl) (pe_bm0 PySem.F.plainAttrs_list PySem.F.slot_list_pop PySem.F.type_list_pop mt_pop (pv 4)))
      (pss_cons (ps_if (pt_cmp (pc_din hu (pv 5) (pv 2))) (pss_one ps_continue) pss_nil)
      (pss_one (ps_for PassesOwn.never rfl (pi_lt (K' := K) (by rfl) (pe_cd c_parts_of_node hr (by first | decide | omega) (by rfl) (pa_cons (pe_ix ix_list (pe_fld (pv 0) rfl) (pv 5) (fun _ _ => rfl)) pa_nil))) (pg_name (i := 6) sc_Pool_inside.nd rfl (.inl rfl))
      (pss_one (ps_if (pt_cmp (pc_dnotin hu (pv 6) (pv 3))) (pss_cons (ps_dput hu (pv 3) (pv 6) pe_bl rfl)
      (pss_one (ps_expr (pe_bm PySem.F.plainAttrs_list PySem.F.slot_list_append PySem.F.type_list_append mt_append (pv 4) (pa_cons (pv 6) pa_nil))))) pss_nil)))))))
      (pss_one (ps_ret (pe_callB (cr_sortedDA rfl) (by rfl) b_sorted (by decide +kernel) (pa_cons (pv 3) pa_nil))))))), ?_⟩
  (with_reducible refine w_seq ?_)
  (with_reducible refine w_asg ?_)
  refine fun fd nfd => ?_
  have hfd0 : upd H fd (.dK []) fd = some (.dK []) := upd_same
  refine ⟨(.int (t : Int)), rfl, ?_⟩
  refine ⟨hfd0, [(kI (t : Int), V.bl true)], rfl, by show 1 ≤ 15; decide, ?_⟩
  generalize eH1 : upd (upd H fd (.dK [])) fd (.dK (mergeK [] [(kI (t : Int), V.bl true)])) = H1
  have hfd1 : H1 fd = some (.dK (tD [t])) := by rw [← eH1, upd_same]; rfl
  have s1 : Same H H1 := fun b o ho => by rw [← eH1, upd_upd, upd_ne (ne_of_none ho nfd)]; exact ho
  (with_reducible refine w_name ?_)
  (with_reducible refine w_seq ?_)
  (with_reducible refine w_asg ?_)
  (with_reducible refine w_lst ?_)
  (with_reducible refine w_cons ?_)
  ((with_reducible refine' w_var ?hv ?_); (case hv => exact rfl))
  (with_reducible refine w_nil ?_)
  refine w_kLst (by show 1 ≤ sizeLine; decide) fun wl H2 nwl s2 hwl => ?_
  (with_reducible refine w_name ?_)
  (with_reducible refine w_seq ?_)
  have nwl0 : H wl = none := s1.free nwl
  have hfd2 := s2 _ _ hfd1
  have nfw : fd ≠ wl := fun z => by rw [z, nwl] at hfd1; cases hfd1
  obtain ⟨dx0, ho0⟩ := hP.ob
  refine ⟨fun m σ' H' => m ≤ ns.length ∧ ∃ ks ws, m = ws.length + (ns.length - ks.length) ∧ Sr H p e fd wl t ns ks ws σ' H' ∧ ∀ k ∈ ks, k ∈ ws ∨ ∀ x, ns[k]? = some x → ∀ j ∈ ndParts x, j ∈ ks, ⟨_, by show 1 + (ns.length - 1) ≤ ns.length; omega, [t], [t], rfl, ⟨s1.trans s2, hfd2, hwl, by simp, fun k hk => by obtain rfl := List.mem_singleton.mp hk; exact ht, List.mem_singleton_self _, fun k hk => hk, none, none, rfl⟩, fun k hk => .inl hk⟩, fun m σ' H' hW => ?_⟩
  obtain ⟨hm, ks, ws, rfl, S, cl⟩ := hW
  obtain ⟨a5, a6, rfl⟩ := S.st
  have lks : ks.length ≤ ns.length := nodup_le S.nd S.lt
  ((with_reducible refine' w_var ?hv ?_); (case hv => exact rfl))
  rcases List.eq_nil_or_concat ws with rfl | ⟨ws', k, rfl⟩
  · refine ⟨false, .inl ⟨_, .of S.hw, rfl⟩, ?_⟩
    dsimp only
    rw [if_neg (by decide)]
    (with_reducible refine w_ret ?_)
    (with_reducible refine w_cb ?_)
    (with_reducible refine w_cons ?_)
    ((with_reducible refine' w_var ?hv ?_); (case hv => exact rfl))
    (with_reducible refine w_nil ?_)
    refine w_sortedDA (ks.map fun (k : Nat) => (k : Int)) S.hf (by unfold tD; rw [List.map_map, List.map_map]; rfl) (by rw [List.length_map]; omega) fun ys r H3 perm asc nr s3 hr3 => ?_
    obtain ⟨zs, pz, rfl⟩ := L2.perm_lift (fun (k : Nat) => (k : Int)) perm ks rfl
    refine q r zs H3 (by rw [hr3, List.map_map]; rfl) (asc_of (pz.nodup_iff.mpr S.nd) asc) (fun k hk => S.lt k (pz.mem_iff.mp hk)) (pz.mem_iff.mpr S.tk) (fun k hk x hx j hj => ?_) (S.sm.trans s3)
    rcases cl k (pz.mem_iff.mp hk) with z | z
    · cases z
    · exact pz.mem_iff.mpr (z x hx j hj)
  · rw [List.concat_eq_append] at S cl hm ⊢
    refine ⟨true, .inl ⟨_, .of S.hw, by simp⟩, ?_⟩
    dsimp only
    rw [if_pos rfl]
    rw [List.length_append, List.length_singleton] at hm
    have hk : k ∈ ks := S.wk k (by simp)
    have lk : k < ns.length := S.lt k hk
    obtain ⟨x, hx⟩ : ∃ x, ns[k]? = some x := ⟨_, List.getElem?_eq_getElem lk⟩
    refine ⟨_, fun σ' H' h => h, ?_⟩
    (with_reducible refine w_seq ?_)
    (with_reducible refine w_asg ?_)
    (with_reducible refine w_bm0 ?_)
    ((with_reducible refine' w_var ?hv ?_); (case hv => exact rfl))
    have hw0 : H' wl = some (.lst (ws'.map (fun (k : Nat) => V.int (k : Int)) ++ [.int (k : Int)])) := by rw [S.hw, List.map_append]; rfl
    refine w_tyL hw0 (w_pop hw0 fun H3 hwl3 b3 => ?_)
    have hfd3 : H3 fd = some (.dK (tD ks)) := b3 _ _ nfw S.hf
    have s03 : Same H H3 := fun b o ho => b3 _ _ (ne_of_none ho nwl0) (S.sm b o ho)
    (with_reducible refine w_name ?_)
    (with_reducible refine w_seq ?_)
    (with_reducible refine w_ifS ?_)
    (with_reducible refine w_B ?_)
    (with_reducible refine w_din ?_)
    ((with_reducible refine' w_var ?hv ?_); (case hv => exact rfl))
    ((with_reducible refine' w_var ?hv ?_); (case hv => exact rfl))
    refine ⟨e, _, rfl, DGet.k (k := kI (k : Int)) (s03 _ _ he), ?_⟩
    (with_reducible refine w_bl ?_)
    have hP3 := hP.same s03
    obtain ⟨dx, ho⟩ := hP3.ob
    obtain ⟨as, a, hl, hi, ha⟩ := hP3.node hx
    rw [if_neg (by show ¬ (none : Option V).isSome = true; decide)]
    (with_reducible refine w_next ?_)
    (with_reducible refine w_for ?_)
    refine w_iLT ?_
    (with_reducible refine w_call ?_)
    (with_reducible refine w_cons ?_)
    (with_reducible refine w_op ?_)
    (with_reducible refine w_fld ?_)
    ((with_reducible refine' w_var ?hv ?_); (case hv => exact rfl))
    ((with_reducible refine' w_kFld ?hT ?hh ?hm ?hl ?_); (case hT => assumption); (case hh => assumption); (case hm => decide); (case hl => exact rfl))
    ((with_reducible refine' w_var ?hv ?_); (case hv => exact rfl))
    refine w_ixL hl hi ?_
    (with_reducible refine w_nil ?_)
    refine ⟨a, x, ns, k, rfl, ha, hP.wf.ok k x hx, fun r H4 hr4 s4 => ?_⟩
    skip
    have hfd4 := s4 _ _ hfd3
    have hwl4 := s4 _ _ hwl3
    have nrf : ∀ xs, H4 r = some (.lst xs) → H3 r = none → r ≠ fd ∧ r ≠ wl := fun xs _ n => ⟨fun z => (by rw [z, hfd3] at n; cases n), fun z => (by rw [z, hwl3] at n; cases n)⟩
    have hr5 : (H4 r = some (.lst ((ndParts x).map fun (k : Nat) => V.int (k : Int))) ∧ H3 r = none) ∨ SqT K H4 r ((ndParts x).map fun (k : Nat) => V.int (k : Int)) := hr4
    refine w_forLT ((ndParts x).map fun (k : Nat) => V.int (k : Int)) (fun i σ' H' => ∃ ks2 ws2, ws2.length + (ns.length - ks2.length) = ws'.length + (ns.length - ks.length) ∧ Sr H p e fd wl t ns ks2 ws2 σ' H' ∧ (∀ y ∈ ks, y ∈ ks2) ∧ (∀ y ∈ ks2, y ∈ ws2 ∨ y = k ∨ ∀ x, ns[y]? = some x → ∀ j ∈ ndParts x, j ∈ ks2) ∧ (∀ j ∈ (ndParts x).take i, j ∈ ks2) ∧ ∀ b o, b ≠ fd → b ≠ wl → H4 b = some o → H' b = some o) (A := H4 r = some (.lst ((ndParts x).map fun (k : Nat) => V.int (k : Int))) ∧ H3 r = none) (·.1) hr5 ?_ (fun i σ' H' li h => ?_) (fun i y σ' H' hy h => ?_) (fun σ' H' h => ?_)
    · exact ⟨ks, ws', rfl, ⟨s03.trans s4, hfd4, hwl4, S.nd, S.lt, S.tk, fun y hy => S.wk y (by simp [hy]), some (.int (k : Int)), a6, rfl⟩, fun y hy => hy, fun y hy => by
        rcases cl y hy with z | z
        · rcases List.mem_append.mp z with z | z
          · exact .inl z
          · exact .inr (.inl (List.mem_singleton.mp z))
        · exact .inr (.inr z), fun j hj => by simp at hj, fun b o _ _ h => h⟩
    · obtain ⟨ks2, ws2, _, _, _, _, _, fr⟩ := h
      exact ⟨fun e => fr _ _ (nrf _ e.1 e.2).1 (nrf _ e.1 e.2).2 e.1, fun e => SqT.but e fun u hu n1 n2 => fr _ _ (fun z => n1 _ (Option.some.inj (hu.symm.trans (z ▸ hfd4)))) (fun z => n2 _ (Option.some.inj (hu.symm.trans (z ▸ hwl4)))) hu⟩
    · obtain ⟨ks2, ws2, em, S2, sub, cl2, tk2, fr⟩ := h
      obtain ⟨b5, b6, rfl⟩ := S2.st
      rw [List.getElem?_map] at hy
      obtain ⟨j, ej, rfl⟩ := Option.map_eq_some_iff.mp hy
      have jm : j ∈ ndParts x := List.mem_of_getElem? ej
      have jk : j < k := part_lt (hP.wf.ok k x hx) jm
      (with_reducible refine w_name ?_)
      (with_reducible refine w_ifS ?_)
      (with_reducible refine w_B ?_)
      (with_reducible refine w_dnin ?_)
      ((with_reducible refine' w_var ?hv ?_); (case hv => exact rfl))
      ((with_reducible refine' w_var ?hv ?_); (case hv => exact rfl))
      refine ⟨fd, _, rfl, DGet.k (k := kI (j : Int)) S2.hf, ?_⟩
      rw [valV_tD]
      (with_reducible refine w_bl ?_)
      have tk3 : ∀ ks3 : List Nat, (∀ y ∈ ks2, y ∈ ks3) → j ∈ ks3 → ∀ y ∈ (ndParts x).take (i + 1), y ∈ ks3 := fun ks3 h1 h2 y hy => by
        rw [take_more ej] at hy
        rcases List.mem_append.mp hy with z | z
        · exact h1 y (tk2 y z)
        · obtain rfl := List.mem_singleton.mp z
          exact h2
      by_cases hj : j ∈ ks2
      · rw [if_pos hj]
        rw [if_neg (by decide)]
        (with_reducible refine w_next ?_)
        exact ⟨ks2, ws2, em, { S2 with st := ⟨_, _, rfl⟩ }, sub, cl2, tk3 ks2 (fun y h => h) hj, fr⟩
      · rw [if_neg hj]
        rw [if_pos (by decide)]
        (with_reducible refine w_seq ?_)
        (with_reducible refine w_dput ?_)
        (with_reducible refine w_c ?_)
        ((with_reducible refine' w_var ?hv ?_); (case hv => exact rfl))
        ((with_reducible refine' w_var ?hv ?_); (case hv => exact rfl))
        have l2 : ks2.length ≤ ns.length := nodup_le S2.nd S2.lt
        have jn : j < ns.length := by omega
        have nd3 : (ks2 ++ [j]).Nodup := List.nodup_append.mpr ⟨S2.nd, by simp, fun y1 h1 z1 h2 e1 => hj (by rw [← List.mem_singleton.mp h2, ← e1]; exact h1)⟩
        have lt3 : ∀ y ∈ ks2 ++ [j], y < ns.length := fun y hy => by
          rcases List.mem_append.mp hy with z | z
          · exact S2.lt y z
          · obtain rfl := List.mem_singleton.mp z
            exact jn
        have l3 : (ks2 ++ [j]).length ≤ ns.length := nodup_le nd3 lt3
        refine ⟨fd, _, rfl, DPut.k (k := kI (j : Int)) S2.hf (by unfold tD; rw [List.length_map, sizeLine_eq]; omega), ?_⟩
        rw [putK_tD hj]
        obtain ⟨H5, eH5⟩ : ∃ H5, H5 = upd H' fd (.dK (tD (ks2 ++ [j]))) := ⟨_, rfl⟩
        rw [← eH5]
        have hfd5 : H5 fd = some (.dK (tD (ks2 ++ [j]))) := by rw [eH5, upd_same]
        have hwl5 : H5 wl = some (.lst (ws2.map fun (k : Nat) => V.int (k : Int))) := by rw [eH5, upd_ne (Ne.symm nfw)]; exact S2.hw
        (with_reducible refine w_drop ?_)
        (with_reducible refine w_bm ?_)
        ((with_reducible refine' w_var ?hv ?_); (case hv => exact rfl))
        ((with_reducible refine' w_tyL ?hh ?_); (case hh => assumption))
        (with_reducible refine w_cons ?_)
        ((with_reducible refine' w_var ?hv ?_); (case hv => exact rfl))
        (with_reducible refine w_nil ?_)
        have lw : ws2.length ≤ ns.length := by omega
        refine w_append hwl5 (by rw [List.length_map, sizeLine_eq]; omega) fun H6 hwl6 b6 => ?_
        skip
        refine ⟨ks2 ++ [j], ws2 ++ [j], ?_, ⟨fun b o ho => b6 _ _ (ne_of_none ho nwl0) (by rw [eH5, upd_ne (ne_of_none ho nfd)]; exact S2.sm b o ho), b6 _ _ nfw hfd5, by rw [hwl6, List.map_append]; rfl, nd3, lt3, List.mem_append_left _ S2.tk, fun y hy => ?_, _, _, rfl⟩, fun y hy => List.mem_append_left _ (sub y hy), fun y hy => ?_, tk3 _ (fun y h => List.mem_append_left _ h) (by simp), fun b o h1 h2 ho => b6 _ _ h2 (by rw [eH5, upd_ne h1]; exact fr b o h1 h2 ho)⟩
        · rw [← em]
          simp only [List.length_append, List.length_singleton] at l3 ⊢
          omega
        · rcases List.mem_append.mp hy with z | z
          · exact List.mem_append_left _ (S2.wk y z)
          · exact List.mem_append_right _ z
        · rcases List.mem_append.mp hy with z | z
          · rcases cl2 y z with z | z | z
            · exact .inl (List.mem_append_left _ z)
            · exact .inr (.inl z)
            · exact .inr (.inr fun x' h1 j' h2 => List.mem_append_left _ (z x' h1 j' h2))
          · exact .inl (List.mem_append_right _ z)
    · obtain ⟨ks2, ws2, em, S2, sub, cl2, tk2, fr⟩ := h
      have hk2 : k ∈ ks2 := sub k hk
      refine ⟨ws2.length + (ns.length - ks2.length), by rw [em, List.length_append]; simp, by rw [em]; omega, ks2, ws2, rfl, S2, fun y hy => ?_⟩
      rcases cl2 y hy with z | z | z
      · exact .inl z
      · subst z
        refine .inr fun x' hx' j hj => tk2 j ?_
        rw [hx] at hx'
        obtain rfl := Option.some.inj hx'
        rw [List.length_map, List.take_length]
        exact hj
      · exact .inr z
end
end K30


open PySem.W
namespace K30
theorem sc_Pool_value_of : FnScope ["self", "t", "registers", "loads", "gets", "given", "values", "number", "node", "part", "factor"] ["self", "t", "registers", "loads", "gets"] (defScope s_Pool_value_of) := ⟨rfl, rfl, rfl, by decide +kernel, rfl, by decide +kernel, by decide +kernel⟩
section
variable {P : Program} {w : World} {K : PySem.W.Frag} {mg : Str → Option Value} {base : Heap} {C_Pool : Addr}
local macro_rules | `(tactic| walk_at "w1") => `(tactic| first
  | (with_reducible refine w_dget ?_)
  | (with_reducible refine w_dput ?_)
  | (with_reducible refine w_din ?_)
  | (with_reducible refine w_fld ?_)
  | (with_reducible refine w_md ?_)
  | ((with_reducible refine' w_kFld ?hT ?hh ?hm ?hl ?_); (case hT => assumption); (case hh => assumption); (case hm => decide); (case hl => exact rfl)))
theorem w_sum {a : Addr} (ns : List Int) {H : Hp} {Q : VK} (h : SqL K H a (ns.map V.int)) (q : Q (.int ns.sum) H) : rSum K [.ref a] H Q := ⟨a, ns, rfl, h, q⟩
abbrev kT (s : Str) : Key := Sum.inr s
/-- the lists of an environment -/
structure EnAt (H : Hp) (r1 r2 r3 : Addr) (e : Env3) : Prop where
  a1 : H r1 = some (.lst (e.regs.map V.int))
  a2 : H r2 = some (.lst (e.loads.map V.int))
  a3 : H r3 = some (.lst (e.gets.map V.int))
theorem EnAt.same {H H' : Hp} {r1 r2 r3 : Addr} {e : Env3} (h : EnAt H r1 r2 r3 e) (s : Same H H') : EnAt H' r1 r2 r3 e := ⟨s _ _ h.a1, s _ _ h.a2, s _ _ h.a3⟩
def spValueOf (P : Program) (w : World) (C : Addr) : Sp := fun vs H Q _ => ∃ (p l d r1 r2 r3 : Addr) (ns : List Nd) (t : Nat) (e : Env3), vs = [.ref p, .int (t : Int), .ref r1, .ref r2, .ref r3] ∧ PoAt P w C H p l d ns ∧ ns.length < 99000 ∧ t < ns.length ∧ EnAt H r1 r2 r3 e ∧ e.Ok ∧
  ∀ H', Same H H' → Q (.int (val e ns t)) H'
theorem leafAt {H : Hp} {r1 r2 r3 : Addr} {e : Env3} (h : EnAt H r1 r2 r3 e) (eo : e.Ok) {kk : Str} {n : Nat} (o : LeafOk kk n) : ∃ (rr : Addr) (L : List Int), valV [(kT "in", V.ref r1), (kT "loose", .ref r1), (kT "load", .ref r2), (kT "get", .ref r3)] (kT kk) = some (.ref rr) ∧ H rr = some (.lst (L.map V.int)) ∧ L[n]? = some (e.leaf kk n) := by
  have go : ∀ L : List Int, n < L.length → L[n]? = some (L.getD n 0) := fun L h => by rw [List.getElem?_eq_getElem h, List.getD_eq_getElem?_getD, List.getElem?_eq_getElem h]; rfl
  rcases o with ⟨rfl | rfl, hn⟩ | ⟨rfl | rfl, hn⟩
  · exact ⟨r1, e.regs, rfl, h.a1, go _ (by rw [eo.1.1]; exact hn)⟩
  · exact ⟨r1, e.regs, rfl, h.a1, go _ (by rw [eo.1.1]; exact hn)⟩
  · exact ⟨r2, e.loads, rfl, h.a2, go _ (by rw [eo.2.1.1]; exact hn)⟩
  · exact ⟨r3, e.gets, rfl, h.a3, go _ (by rw [eo.2.2.1]; exact hn)⟩
theorem noGiven {r1 r2 r3 : Addr} {o : Str} (h1 : o ≠ "in") (h2 : o ≠ "loose") (h3 : o ≠ "load") (h4 : o ≠ "get") : valV [(kT "in", V.ref r1), (kT "loose", .ref r1), (kT "load", .ref r2), (kT "get", .ref r3)] (kT o) = none := by
  have ne : ∀ {a b : Str}, a ≠ b → kT b ≠ kT a := fun h z => h (by injection z with z; exact z.symm)
  rw [valV_neg (ne h1), valV_neg (ne h2), valV_neg (ne h3), valV_neg (ne h4)]
  rfl
theorem opF_mem {o : Str} {g : Int → Int → Int} (h : (o, g) ∈ tab13) : opF o = g := by
  simp only [tab13, List.mem_cons, Prod.mk.injEq, List.not_mem_nil, or_false] at h
  rcases h with ⟨rfl, rfl⟩ | ⟨rfl, rfl⟩ | ⟨rfl, rfl⟩ | ⟨rfl, rfl⟩ | ⟨rfl, rfl⟩ | ⟨rfl, rfl⟩ | ⟨rfl, rfl⟩ | ⟨rfl, rfl⟩ | ⟨rfl, rfl⟩ | ⟨rfl, rfl⟩ | ⟨rfl, rfl⟩ | ⟨rfl, rfl⟩ | ⟨rfl, rfl⟩ <;> rfl
theorem before {zs : List Nat} (hs : zs.Pairwise (· < ·)) {i k j : Nat} (hk : zs[i]? = some k) (hj : j ∈ zs) (lt : j < k) : j ∈ zs.take i := by
  obtain ⟨m, em⟩ := List.getElem?_of_mem hj
  obtain ⟨lm, em'⟩ := List.getElem?_eq_some_iff.mp em
  obtain ⟨li, ei⟩ := List.getElem?_eq_some_iff.mp hk
  have mi : m < i := by
    rcases Nat.lt_trichotomy m i with h | h | h
    · exact h
    · subst h; omega
    · have := (List.pairwise_iff_getElem.mp hs) i m li lm h
      omega
  exact List.mem_iff_getElem?.mpr ⟨m, by rw [List.getElem?_take_of_lt mi]; exact em⟩
theorem after {zs : List Nat} (hs : zs.Pairwise (· < ·)) {i k : Nat} (hk : zs[i]? = some k) : k ∉ zs.take i := fun h => by
  obtain ⟨m, em⟩ := List.getElem?_of_mem h
  have mi : m < i := by
    have := (List.getElem?_eq_some_iff.mp em).1
    rw [List.length_take] at this
    omega
  rw [List.getElem?_take_of_lt mi] at em
  obtain ⟨lm, em'⟩ := List.getElem?_eq_some_iff.mp em
  obtain ⟨li, ei⟩ := List.getElem?_eq_some_iff.mp hk
  have := (List.pairwise_iff_getElem.mp hs) m i lm li mi
  omega
theorem put_fD {ks : List Nat} {k : Nat} {f : Nat → Int} (h : k ∉ ks) : putK (fD ks f) (kI (k : Int)) (.int (f k)) = fD (ks ++ [k]) f := by
  rw [putK_fD, if_neg h]
  congr 1
  funext j
  split
  · rename_i e; rw [e]
  · rfl
/-- the state of the loop -/
structure Sv (H0 : Hp) (p g vd r1 r2 r3 t : Addr) (e : Env3) (ns : List Nd) (ks : List Nat) (σ : L2.St) (H : Hp) : Prop where
  sm : Same H0 H
  hg : H g = some (.dK [(kT "in", .ref r1), (kT "loose", .ref r1), (kT "load", .ref r2), (kT "get", .ref r3)])
  hv : H vd = some (.dK (fD ks (val e ns)))
  st : ∃ a7 a8 a9 a10, σ = [some (.ref p), some (.int (t : Int)), some (.ref r1), some (.ref r2), some (.ref r3), some (.ref g), some (.ref vd), a7, a8, a9, a10]
theorem ok_Pool_value_of (b_sum : mg "sum" = none) (g_MASK : GV mg "MASK" (.int 4294967295)) (c_compute : Cd P w K mg base 3 "compute" spComp) (T_Pool : Ob K C_Pool poN) (m_Pool_inside : Md P w K mg base 2 C_Pool "inside" (spInside P w C_Pool)) (Z : StM K C_Pool "value_of" "Pool.value_of" s_Pool_value_of ["self", "t", "registers", "loads", "gets"]) : Md P w K mg base 4 C_Pool "value_of" (spValueOf P w C_Pool) := by
  refine Z.md sc_Pool_value_of (fun vs H Q E h => by obtain ⟨p, l, d, r1, r2, r3, ns, t, e, rfl, _⟩ := h; rfl) (fun f cdv A outer s H vs Q E hr h => ?_)
  obtain ⟨p, l, d, r1, r2, r3, ns, t, e, rfl, hP, hn, ht, hE, eo, q⟩ := h
  have hu := hu_of hr
  refine ⟨_, (pss_cons (ps_set (i := 5) sc_Pool_value_of.nd rfl (.inl rfl) (pe_disp (pps_cons pe_str (pv 2) (pps_cons pe_str (pv 2) (pps_cons pe_str (pv 3) (pps_cons pe_str (pv 4) pps_nil)))) (by rfl) (by rfl) (fun z => by cases z) (by decide)))
      (pss_cons (ps_set (i := 6) sc_Pool_value_of.nd rfl (.inr rfl) pe_dnewK)
      (pss_cons (ps_for PassesOwn.never rfl (pi_list (pe_md T_Pool.cl m_Pool_inside hr (by first | decide | omega) (pv 0) (pa_cons (pv 1) (pa_cons pe_dnewK pa_nil)))) (pg_name (i := 7) sc_Pool_value_of.nd rfl (.inl rfl))
      (pss_cons (ps_set (i := 8) sc_Pool_value_of.nd rfl (.inl rfl) (pe_ix ix_list (pe_fld (pv 0) rfl) (pv 7) (fun _ _ => rfl)))
      (pss_one (ps_if (pt_cmpR op_eq (pe_ix ix_tup (pv 8) pe_int (fun _ _ => rfl)) pe_str (nomark _)) (pss_one (ps_dput hu (pv 6) (pv 7) (pe_ix ix_tup (pv 8) pe_int (fun _ _ => rfl)) rfl)) (pss_one (ps_if (pt_cmp (pc_din hu (pe_ix ix_tup (pv 8) pe_int (fun _ _ => rfl)) (pv 5))) (pss_one (ps_dput hu (pv 6) (pv 7) (pe_ix ix_list (pe_dget hu (pv 5) (pe_ix ix_tup (pv 8) pe_int (fun _ _ => rfl)) (fun _ _ => rfl)) (pe_ix ix_tup (pv 8) pe_int (fun _ _ => rfl)) (fun _ _ => rfl)) rfl)) (pss_one (ps_if (pt_cmpR op_eq (pe_ix ix_tup (pv 8) pe_int (fun _ _ => rfl)) pe_str (nomark _)) (pss_one (ps_dput hu (pv 6) (pv 7) (pe_op op_and (pe_op op_add (pe_ix ix_tup (pv 8) pe_int (fun _ _ => rfl)) (pe_callB (cr_sum rfl) (by rfl) b_sum (by decide +kernel) (pa_cons (pe_lc (own := [("part", 9), ("factor", 10)]) rfl sc_Pool_value_of.nd (pi_tup (pe_ix ix_tup (pv 8) pe_int (fun _ _ => rfl))) (blkOk_by (own := [("part", 9), ("factor", 10)]) (N := ["self", "t", "registers", "loads", "gets", "given", "values", "number", "node", "part", "factor"]) (sc := (defScope s_Pool_value_of)) (by decide +kernel)) (fun _ _ _ _ _ => (pg_tupK (K' := K) (n := 2) (by rfl) (by rfl) (pgs_cons (pg_name (i := 9) sc_Pool_value_of.nd (by rfl) (Or.inl (by rfl)) (by first | exact Or.inl rfl | exact Or.inr rfl)) (pgs_cons (pg_name (i := 10) sc_Pool_value_of.nd (by rfl) (Or.inl (by rfl)) (by first | exact Or.inl rfl | exact Or.inr rfl)) pgs_nil)))) (fun _ _ _ _ _ => pts_nil) (fun _ _ _ _ _ => (pe_op op_mul (pv 10) (pe_dget hu (pv 6) (pv 9) (fun _ _ => rfl))))) pa_nil))) (pe_gv (by rfl) g_MASK)) rfl)) (pss_one (ps_dput hu (pv 6) (pv 7) (pe_cd c_compute hr (by first | decide | omega) (by rfl) (pa_cons (pe_ix ix_tup (pv 8) pe_int (fun _ _ => rfl)) (pa_cons (pe_dget hu (pv 6) (pe_ix ix_tup (pv 8) pe_int (fun _ _ => rfl)) (fun _ _ => rfl)) (pa_cons (pe_dget hu (pv 6) (pe_ix ix_tup (pv 8) pe_int (fun _ _ => rfl)) (fun _ _ => rfl)) pa_nil)))) rfl))))))))))
      (pss_one (ps_ret (pe_dget hu (pv 6) (pv 1) (fun _ _ => rfl))))))), ?_⟩
  (with_reducible refine w_seq ?_)
  (with_reducible refine w_asg ?_)
  refine fun g ng => ?_
  have hg0 : upd H g (.dK []) g = some (.dK []) := upd_same
  refine ⟨.ref r1, rfl, .ref r1, rfl, .ref r2, rfl, .ref r3, rfl, ?_⟩
  refine ⟨hg0, [(kT "in", .ref r1), (kT "loose", .ref r1), (kT "load", .ref r2), (kT "get", .ref r3)], rfl, by show 4 ≤ 15; decide, ?_⟩
  obtain ⟨H1, eH1⟩ : ∃ H1, H1 = upd (upd H g (.dK [])) g (.dK (mergeK [] [(kT "in", .ref r1), (kT "loose", .ref r1), (kT "load", .ref r2), (kT "get", .ref r3)])) := ⟨_, rfl⟩
  rw [← eH1]
  have hg1 : H1 g = some (.dK [(kT "in", .ref r1), (kT "loose", .ref r1), (kT "load", .ref r2), (kT "get", .ref r3)]) := by rw [eH1, upd_same]; rfl
  have s1 : Same H H1 := fun b o ho => by rw [eH1, upd_upd, upd_ne (ne_of_none ho ng)]; exact ho
  (with_reducible refine w_name ?_)
  (with_reducible refine w_seq ?_)
  (with_reducible refine w_asg ?_)
  refine w_dnewK fun vd H2 nvd s2 hv2 => ?_
  (with_reducible refine w_name ?_)
  (with_reducible refine w_seq ?_)
  (with_reducible refine w_for ?_)
  (with_reducible refine w_iL ?_)
  (with_reducible refine w_md ?_)
  ((with_reducible refine' w_var ?hv ?_); (case hv => exact rfl))
  have nvd0 : H vd = none := s1.free nvd
  have hP2 := hP.same (s1.trans s2)
  have hg2 := s2 _ _ hg1
  obtain ⟨dx, ho⟩ := hP2.ob
  refine w_kMd ho rfl ?_
  (with_reducible refine w_cons ?_)
  ((with_reducible refine' w_var ?hv ?_); (case hv => exact rfl))
  (with_reducible refine w_cons ?_)
  refine w_dnewK fun em H3 nem s3 hem => ?_
  (with_reducible refine w_nil ?_)
  have s03 : Same H H3 := (s1.trans s2).trans s3
  refine ⟨p, l, d, em, ns, t, rfl, hP.same s03, hn, ht, hem, fun r zs H4 hr4 asc ltz tz clz s4 => ?_⟩
  have s04 : Same H H4 := s03.trans s4
  have nz : zs.Nodup := asc.imp fun h => Nat.ne_of_lt h
  have lz : zs.length ≤ ns.length := nodup_le nz ltz
  have hv4 : H4 vd = some (.dK (fD [] (val e ns))) := s4 _ _ (s3 _ _ hv2)
  have hg4 := s4 _ _ (s3 _ _ hg2)
  have nrv : r ≠ vd := fun z => by rw [z, hv4] at hr4; cases hr4
  have ngv : g ≠ vd := fun z => by rw [z, nvd] at hg1; cases hg1
  refine w_forL (zs.map fun (k : Nat) => V.int (k : Int)) (fun i σ' H' => Sv H p g vd r1 r2 r3 t e ns (zs.take i) σ' H' ∧ ∀ b o, b ≠ vd → H4 b = some o → H' b = some o) (.of hr4) ?_ (fun i σ' H' li h => .of (h.2 _ _ nrv hr4)) (fun i y σ' H' hy h => ?_) (fun σ' H' h => ?_)
  · exact ⟨⟨s04, hg4, hv4, none, none, none, none, rfl⟩, fun b o _ h => h⟩
  · obtain ⟨S, fr⟩ := h
    obtain ⟨b7, b8, b9, b10, rfl⟩ := S.st
    rw [List.getElem?_map] at hy
    obtain ⟨k, ek, rfl⟩ := Option.map_eq_some_iff.mp hy
    have km : k ∈ zs := List.mem_of_getElem? ek
    have lk := ltz k km
    obtain ⟨x, hx⟩ : ∃ x, ns[k]? = some x := ⟨_, List.getElem?_eq_getElem lk⟩
    have okx := hP.wf.ok k x hx
    have hPk := hP.same S.sm
    obtain ⟨dx', ho'⟩ := hPk.ob
    obtain ⟨as, a, hl, hi, ha⟩ := hPk.node hx
    have ev := val_at e hP.wf hx
    have lt : (zs.take i).length ≤ ns.length := Nat.le_trans (by rw [List.length_take]; exact Nat.min_le_right _ _) lz
    have fin : ∀ (Hx : Hp) (c8 c9 c10 : Option V), (∀ b o, b ≠ vd → H' b = some o → Hx b = some o) → Hx vd = some (.dK (fD (zs.take i) (val e ns))) → ∃ a' H5, V.ref vd = .ref a' ∧ DPut Hx a' (.int (k : Int)) (.int (val e ns k)) H5 ∧ (Sv H p g vd r1 r2 r3 t e ns (zs.take (i + 1)) [some (.ref p), some (.int (t : Int)), some (.ref r1), some (.ref r2), some (.ref r3), some (.ref g), some (.ref vd), some (.int (k : Int)), c8, c9, c10] H5 ∧ ∀ b o, b ≠ vd → H4 b = some o → H5 b = some o) := fun Hx c8 c9 c10 f1 f2 => by
      refine ⟨vd, _, rfl, DPut.k (k := kI (k : Int)) f2 (by unfold fD; rw [List.length_map, sizeLine_eq]; omega), ⟨fun b o hb => ?_, ?_, ?_, _, _, _, _, rfl⟩, fun b o hb h => ?_⟩
      · rw [upd_ne (ne_of_none hb nvd0)]; exact f1 _ _ (ne_of_none hb nvd0) (S.sm _ _ hb)
      · rw [upd_ne ngv]; exact f1 _ _ ngv S.hg
      · rw [upd_same, put_fD (after asc ek), take_more ek]
      · rw [upd_ne hb]; exact f1 _ _ hb (fr _ _ hb h)
    have gv : ∀ j ∈ ndParts x, valV (fD (zs.take i) (val e ns)) (kI (j : Int)) = some (.int (val e ns j)) := fun j hj => by rw [valV_fD, if_pos (before asc ek (clz k km x hx j hj) (part_lt okx hj))]
    have w32 : ∀ j ∈ ndParts x, W32 (val e ns j) := fun j hj => vals_w32 eo hP.wf j (Nat.lt_trans (part_lt okx hj) lk)
    (with_reducible refine w_name ?_)
    (with_reducible refine w_seq ?_)
    (with_reducible refine w_asg ?_)
    (with_reducible refine w_op ?_)
    (with_reducible refine w_fld ?_)
    ((with_reducible refine' w_var ?hv ?_); (case hv => exact rfl))
    ((with_reducible refine' w_kFld ?hT ?hh ?hm ?hl ?_); (case hT => assumption); (case hh => assumption); (case hm => decide); (case hl => exact rfl))
    ((with_reducible refine' w_var ?hv ?_); (case hv => exact rfl))
    refine w_ixL hl hi ?_
    (with_reducible refine w_name ?_)
    (with_reducible refine w_ifS ?_)
    (with_reducible refine w_test ?_)
    (with_reducible refine w_op ?_)
    (with_reducible refine w_op ?_)
    ((with_reducible refine' w_var ?hv ?_); (case hv => exact rfl))
    (with_reducible refine w_c ?_)
    cases x with
    | word v =>
      refine w_ixT ha rfl ?_
      (with_reducible refine w_c ?_)
      (with_reducible refine w_eqS ?_)
      (with_reducible refine w_bl ?_)
      refine w_decT rfl ?_
      (with_reducible refine w_dput ?_)
      (with_reducible refine w_op ?_)
      ((with_reducible refine' w_var ?hv ?_); (case hv => exact rfl))
      (with_reducible refine w_c ?_)
      ((with_reducible refine' w_ixT ?hh ?ha ?_); (case hh => assumption); (case ha => exact rfl))
      ((with_reducible refine' w_var ?hv ?_); (case hv => exact rfl))
      ((with_reducible refine' w_var ?hv ?_); (case hv => exact rfl))
      rw [show v = val e ns k from ev.symm]
      exact fin H' _ _ _ (fun b o _ h => h) S.hv
    | leaf kk n =>
      refine w_ixT ha rfl ?_
      (with_reducible refine w_c ?_)
      (with_reducible refine w_eqS ?_)
      (with_reducible refine w_bl ?_)
      refine w_decF (leaf_name okx).1 ?_
      (with_reducible refine w_ifS ?_)
      (with_reducible refine w_B ?_)
      (with_reducible refine w_din ?_)
      (with_reducible refine w_op ?_)
      ((with_reducible refine' w_var ?hv ?_); (case hv => exact rfl))
      (with_reducible refine w_c ?_)
      ((with_reducible refine' w_ixT ?hh ?ha ?_); (case hh => assumption); (case ha => exact rfl))
      ((with_reducible refine' w_var ?hv ?_); (case hv => exact rfl))
      obtain ⟨rr, L, g1, g2, g3⟩ := leafAt (hE.same S.sm) eo okx
      refine ⟨g, _, rfl, DGet.k (k := kT kk) S.hg, true, by rw [g1]; rfl, ?_⟩
      rw [if_pos rfl]
      (with_reducible refine w_dput ?_)
      (with_reducible refine w_op ?_)
      (with_reducible refine w_dget ?_)
      ((with_reducible refine' w_var ?hv ?_); (case hv => exact rfl))
      (with_reducible refine w_op ?_)
      ((with_reducible refine' w_var ?hv ?_); (case hv => exact rfl))
      (with_reducible refine w_c ?_)
      ((with_reducible refine' w_ixT ?hh ?ha ?_); (case hh => assumption); (case ha => exact rfl))
      refine ⟨g, .ref rr, rfl, by have := DGet.k (k := kT kk) S.hg; rw [g1] at this; exact this, ?_⟩
      (with_reducible refine w_op ?_)
      ((with_reducible refine' w_var ?hv ?_); (case hv => exact rfl))
      (with_reducible refine w_c ?_)
      ((with_reducible refine' w_ixT ?hh ?ha ?_); (case hh => assumption); (case ha => exact rfl))
      refine w_ixL g2 (atI_nat (by rw [List.getElem?_map, g3]; rfl)) ?_
      ((with_reducible refine' w_var ?hv ?_); (case hv => exact rfl))
      ((with_reducible refine' w_var ?hv ?_); (case hv => exact rfl))
      rw [show e.leaf kk n = val e ns k from ev.symm]
      exact fin H' _ _ _ (fun b o _ h => h) S.hv
    | op o s t =>
      refine w_ixT ha rfl ?_
      (with_reducible refine w_c ?_)
      (with_reducible refine w_eqS ?_)
      (with_reducible refine w_bl ?_)
      refine w_decF (op_name okx.1).1 ?_
      (with_reducible refine w_ifS ?_)
      (with_reducible refine w_B ?_)
      (with_reducible refine w_din ?_)
      (with_reducible refine w_op ?_)
      ((with_reducible refine' w_var ?hv ?_); (case hv => exact rfl))
      (with_reducible refine w_c ?_)
      ((with_reducible refine' w_ixT ?hh ?ha ?_); (case hh => assumption); (case ha => exact rfl))
      ((with_reducible refine' w_var ?hv ?_); (case hv => exact rfl))
      refine ⟨g, _, rfl, DGet.k (k := kT o) S.hg, false, by rw [noGiven (op_name okx.1).2.2.1 (op_name okx.1).2.2.2.1 (op_name okx.1).2.2.2.2.1 (op_name okx.1).2.2.2.2.2]; rfl, ?_⟩
      rw [if_neg (by decide)]
      (with_reducible refine w_ifS ?_)
      (with_reducible refine w_test ?_)
      (with_reducible refine w_op ?_)
      (with_reducible refine w_op ?_)
      ((with_reducible refine' w_var ?hv ?_); (case hv => exact rfl))
      (with_reducible refine w_c ?_)
      ((with_reducible refine' w_ixT ?hh ?ha ?_); (case hh => assumption); (case ha => exact rfl))
      (with_reducible refine w_c ?_)
      (with_reducible refine w_eqS ?_)
      (with_reducible refine w_bl ?_)
      refine w_decF (op_name okx.1).2.1 ?_
      (with_reducible refine w_dput ?_)
      (with_reducible refine w_call ?_)
      (with_reducible refine w_cons ?_)
      (with_reducible refine w_op ?_)
      ((with_reducible refine' w_var ?hv ?_); (case hv => exact rfl))
      (with_reducible refine w_c ?_)
      ((with_reducible refine' w_ixT ?hh ?ha ?_); (case hh => assumption); (case ha => exact rfl))
      (with_reducible refine w_cons ?_)
      (with_reducible refine w_dget ?_)
      ((with_reducible refine' w_var ?hv ?_); (case hv => exact rfl))
      (with_reducible refine w_op ?_)
      ((with_reducible refine' w_var ?hv ?_); (case hv => exact rfl))
      (with_reducible refine w_c ?_)
      ((with_reducible refine' w_ixT ?hh ?ha ?_); (case hh => assumption); (case ha => exact rfl))
      refine w_kDGI S.hv (gv s (by simp [ndParts])) ?_
      (with_reducible refine w_cons ?_)
      (with_reducible refine w_dget ?_)
      ((with_reducible refine' w_var ?hv ?_); (case hv => exact rfl))
      (with_reducible refine w_op ?_)
      ((with_reducible refine' w_var ?hv ?_); (case hv => exact rfl))
      (with_reducible refine w_c ?_)
      ((with_reducible refine' w_ixT ?hh ?ha ?_); (case hh => assumption); (case ha => exact rfl))
      refine w_kDGI S.hv (gv t (by simp [ndParts])) ?_
      (with_reducible refine w_nil ?_)
      obtain ⟨gg, hgg⟩ := okx.1
      refine ⟨o, gg, _, _, rfl, List.mem_append_left _ hgg, w32 s (by simp [ndParts]), w32 t (by simp [ndParts]), ?_⟩
      ((with_reducible refine' w_var ?hv ?_); (case hv => exact rfl))
      ((with_reducible refine' w_var ?hv ?_); (case hv => exact rfl))
      have ev' : gg (val e ns s) (val e ns t) = val e ns k := by rw [ev, ← opF_mem hgg]; rfl
      rw [ev']
      exact fin H' _ _ _ (fun b o _ h => h) S.hv
    | sum c ps =>
      obtain ⟨b, ha0, rs, hb, pr⟩ := ha
      refine w_ixT ha0 rfl ?_
      (with_reducible refine w_c ?_)
      (with_reducible refine w_eqS ?_)
      (with_reducible refine w_bl ?_)
      refine w_decF (by decide) ?_
      (with_reducible refine w_ifS ?_)
      (with_reducible refine w_B ?_)
      (with_reducible refine w_din ?_)
      (with_reducible refine w_op ?_)
      ((with_reducible refine' w_var ?hv ?_); (case hv => exact rfl))
      (with_reducible refine w_c ?_)
      ((with_reducible refine' w_ixT ?hh ?ha ?_); (case hh => assumption); (case ha => exact rfl))
      ((with_reducible refine' w_var ?hv ?_); (case hv => exact rfl))
      refine ⟨g, _, rfl, DGet.k (k := kT "sum") S.hg, false, rfl, ?_⟩
      rw [if_neg (by decide)]
      (with_reducible refine w_ifS ?_)
      (with_reducible refine w_test ?_)
      (with_reducible refine w_op ?_)
      (with_reducible refine w_op ?_)
      ((with_reducible refine' w_var ?hv ?_); (case hv => exact rfl))
      (with_reducible refine w_c ?_)
      ((with_reducible refine' w_ixT ?hh ?ha ?_); (case hh => assumption); (case ha => exact rfl))
      (with_reducible refine w_c ?_)
      (with_reducible refine w_eqS ?_)
      (with_reducible refine w_bl ?_)
      refine w_decT rfl ?_
      (with_reducible refine w_dput ?_)
      (with_reducible refine w_op ?_)
      (with_reducible refine w_op ?_)
      (with_reducible refine w_op ?_)
      ((with_reducible refine' w_var ?hv ?_); (case hv => exact rfl))
      (with_reducible refine w_c ?_)
      ((with_reducible refine' w_ixT ?hh ?ha ?_); (case hh => assumption); (case ha => exact rfl))
      (with_reducible refine w_cb ?_)
      (with_reducible refine w_cons ?_)
      (with_reducible refine w_lc ?_)
      (with_reducible refine w_iT ?_)
      (with_reducible refine w_op ?_)
      ((with_reducible refine' w_var ?hv ?_); (case hv => exact rfl))
      (with_reducible refine w_c ?_)
      ((with_reducible refine' w_ixT ?hh ?ha ?_); (case hh => assumption); (case ha => exact rfl))
      refine w_lcT (rs.map V.ref) (fun D i2 H5 => H' D = none ∧ Same H' H5 ∧ H5 D = some (.lst ((ps.take i2).map fun p => V.int (p.2 * val e ns p.1)))) (.of hb) (fun D nD => ⟨nD, Same.new nD, upd_same⟩) (fun D i2 H5 _ h => .of (h.2.1 _ _ hb)) (fun D i2 x H5 hx2 h => ?_) (fun D H5 nD h => ?_)
      · obtain ⟨nD, s5, hD⟩ := h
        rw [List.getElem?_map] at hx2
        obtain ⟨r', er, rfl⟩ := Option.map_eq_some_iff.mp hx2
        have li : i2 < ps.length := by have := (List.getElem?_eq_some_iff.mp er).1; rw [pr.length] at this; exact this
        obtain ⟨⟨t', fa⟩, et⟩ : ∃ q, ps[i2]? = some q := ⟨_, List.getElem?_eq_getElem li⟩
        have pm : (t', fa) ∈ ps := List.mem_of_getElem? et
        have tm : t' ∈ ndParts (Nd.sum c ps) := List.mem_map.mpr ⟨_, pm, rfl⟩
        have hr1 : H' r' = some (.tup [.int (t' : Int), .int fa]) := prd_at pr er et
        have bw := w32 t' tm
        have bf := okx.1.2.2.1 _ pm
        refine w_gTup (s5 _ _ hr1) rfl ?_
        (with_reducible refine w_gCons ?_)
        (with_reducible refine w_name ?_)
        (with_reducible refine w_gCons ?_)
        (with_reducible refine w_name ?_)
        (with_reducible refine w_gNil ?_)
        refine ⟨rfl, ?_⟩
        (with_reducible refine w_yes ?_)
        (with_reducible refine w_itT ?_)
        (with_reducible refine w_op ?_)
        ((with_reducible refine' w_var ?hv ?_); (case hv => exact rfl))
        (with_reducible refine w_dget ?_)
        ((with_reducible refine' w_var ?hv ?_); (case hv => exact rfl))
        ((with_reducible refine' w_var ?hv ?_); (case hv => exact rfl))
        refine w_kDGI (s5 _ _ S.hv) (gv t' tm) ?_
        skip
        refine w_I (by
          have b1 := bf.1
          have b2 : fa < 4294967296 := bf.2
          dsimp only [CMul] at b1 b2 ⊢
          omega) ?_
        refine ⟨_, hD, ?_, nD, fun y o hy => ?_, ?_⟩
        · rw [List.length_map, List.length_take]
          exact Nat.lt_of_le_of_lt (Nat.min_le_right _ _) (Nat.lt_of_le_of_lt okx.1.2.2.2.2.2 (by decide))
        · rw [upd_ne (ne_of_none hy nD)]; exact s5 _ _ hy
        · rw [upd_same, take_more et, List.map_append]; rfl
      · obtain ⟨_, s5, hD⟩ := h
        rw [List.length_map, pr.length, List.take_length] at hD
        (with_reducible refine w_nil ?_)
        refine w_sum (ps.map fun p => p.2 * val e ns p.1) (.of (by rw [hD, List.map_map]; rfl)) ?_
        (with_reducible refine w_I0 ?_)
        (with_reducible refine w_c ?_)
        (with_reducible refine w_I0 ?_)
        ((with_reducible refine' w_var ?hv ?_); (case hv => exact rfl))
        ((with_reducible refine' w_var ?hv ?_); (case hv => exact rfl))
        rw [bitAnd_m32]
        rw [show (c + (ps.map fun p => p.2 * val e ns p.1).sum) % 4294967296 = val e ns k from ev.symm]
        exact fin H5 _ _ _ (fun b o _ h => s5 _ _ h) (s5 _ _ S.hv)
  · obtain ⟨S, fr⟩ := h
    obtain ⟨b7, b8, b9, b10, rfl⟩ := S.st
    (with_reducible refine w_ret ?_)
    (with_reducible refine w_dget ?_)
    ((with_reducible refine' w_var ?hv ?_); (case hv => exact rfl))
    ((with_reducible refine' w_var ?hv ?_); (case hv => exact rfl))
    refine w_kDGI S.hv (v := .int (val e ns t)) (by rw [valV_fD, List.length_map, List.take_length, if_pos tz]) ?_
    exact q _ S.sm
end
end K30


open PySem.W
namespace K30
theorem sc_law_part : FnScope ["draw", "terms", "words", "k"] ["draw", "terms", "words"] (defScope s_law_part) := ⟨rfl, rfl, rfl, by decide +kernel, rfl, by decide +kernel, by decide +kernel⟩
theorem sc_law_lists : FnScope ["draw", "k"] ["draw"] (defScope s_law_lists) := ⟨rfl, rfl, rfl, by decide +kernel, rfl, by decide +kernel, by decide +kernel⟩
theorem sc_law_leaf_value : FnScope ["node", "lists"] ["node", "lists"] (defScope s_law_leaf_value) := ⟨rfl, rfl, rfl, by decide +kernel, rfl, by decide +kernel, by decide +kernel⟩
abbrev LstN (H : Hp) (a : Addr) (xs : List Nat) : Prop := H a = some (.lst (xs.map fun (k : Nat) => V.int (k : Int)))
def spPart : Sp := fun vs H Q _ => ∃ (d cc tl wl : Addr) (ts ws : List Nat), vs = [.ref d, .ref tl, .ref wl] ∧ DrawC H d cc ∧ LstN H tl ts ∧ LstN H wl ws ∧ tl ≠ d ∧ wl ≠ d ∧ 0 < ts.length ∧ ts.length < 1000 ∧ 0 < ws.length ∧ ws.length < 1000 ∧
  ∀ (x : Nat) H', x ∈ ts ∨ x ∈ ws → DrawC H' d cc → But d H H' → Q (.int (x : Int)) H'
def spLists : Sp := fun vs H Q _ => ∃ (d cc : Addr), vs = [.ref d] ∧ DrawC H d cc ∧ ∀ (e : Env3) (r r1 r2 r3 : Addr) H', e.Ok → H' r = some (.lst [.ref r1, .ref r2, .ref r3]) → EnAt H' r1 r2 r3 e → DrawC H' d cc → (H r = none ∧ H r1 = none ∧ H r2 = none ∧ H r3 = none) → But d H H' → Q (.ref r) H'
def spLeafV : Sp := fun vs H Q _ => ∃ (a r r1 r2 r3 : Addr) (x : Nd) (e : Env3), vs = [.ref a, .ref r] ∧ NdAt H a x ∧ (∃ k n, x = .leaf k n ∧ LeafOk k n) ∧ H r = some (.lst [.ref r1, .ref r2, .ref r3]) ∧ EnAt H r1 r2 r3 e ∧ e.Ok ∧ Q (.int (ndVal e [] x)) H
section
variable {P : Program} {w : World} {K : PySem.W.Frag} {mg : Str → Option Value} {base : Heap}
theorem ok_law_part (b_len : mg "len" = none) (b_min : mg "min" = none) (c_law_take : Cd P w K mg base 1 "_law_take" spTake) (Z : St1 K mg "_law_part" s_law_part ["draw", "terms", "words"]) : Cd P w K mg base 2 "_law_part" spPart := by
  refine Z.cd sc_law_part (fun vs H Q E h => by obtain ⟨d, cc, tl, wl, ts, ws, rfl, _⟩ := h; rfl) (fun f cdv A outer s H vs Q E hr h => ?_)
  obtain ⟨d, cc, tl, wl, ts, ws, rfl, hd, ht, hw, nt, nw, t0, t1, w0, w1, q⟩ := h
  refine ⟨_, (pss_cons (ps_set (i := 3) sc_law_part.nd rfl (.inl rfl) (pe_cd c_law_take hr (by first | decide | omega) (by rfl) (pa_cons (pv 0) (pa_cons pe_int pa_nil))))
      (pss_cons (ps_if (pt_cmpR op_eq (pv 3) pe_int (nomark _)) (pss_one (ps_ret (pe_ix ix_list (pv 2) (pe_cd c_law_take hr (by first | decide | omega) (by rfl) (pa_cons (pv 0) (pa_cons (pe_callB call_lenQ (by rfl) b_len PySem.boot_len (pa_cons (pv 2) pa_nil)) pa_nil))) (fun _ _ => rfl)))) pss_nil)
      (pss_one (ps_ret (pe_ix ix_list (pv 1) (pe_op op_sub (pe_op op_sub (pe_callB call_lenQ (by rfl) b_len PySem.boot_len (pa_cons (pv 1) pa_nil)) pe_int) (pe_cd c_law_take hr (by first | decide | omega) (by rfl) (pa_cons (pv 0) (pa_cons (pe_callB (call_min2 rfl) (by rfl) b_min (by decide +kernel) (pa_cons (pe_callB call_lenQ (by rfl) b_len PySem.boot_len (pa_cons (pv 1) pa_nil)) (pa_cons pe_int pa_nil))) pa_nil)))) (fun _ _ => rfl)))))), ?_⟩
  (with_reducible refine w_seq ?_)
  (with_reducible refine w_asg ?_)
  (with_reducible refine w_call ?_)
  (with_reducible refine w_cons ?_)
  ((with_reducible refine' w_var ?hv ?_); (case hv => exact rfl))
  (with_reducible refine w_cons ?_)
  (with_reducible refine w_c ?_)
  (with_reducible refine w_nil ?_)
  refine w_take hd (by decide) (by decide) fun k H1 k0 k1 hd1 b1 => ?_
  (with_reducible refine w_name ?_)
  (with_reducible refine w_seq ?_)
  (with_reducible refine w_ifS ?_)
  (with_reducible refine w_test ?_)
  (with_reducible refine w_op ?_)
  ((with_reducible refine' w_var ?hv ?_); (case hv => exact rfl))
  (with_reducible refine w_c ?_)
  (with_reducible refine w_eqI ?_)
  (with_reducible refine w_bl ?_)
  have ht1 := b1 _ _ nt ht
  have hw1 := b1 _ _ nw hw
  refine w_dec (fun e1 => ?_) (fun e1 => ?_)
  · (with_reducible refine w_ret ?_)
    (with_reducible refine w_op ?_)
    ((with_reducible refine' w_var ?hv ?_); (case hv => exact rfl))
    (with_reducible refine w_call ?_)
    (with_reducible refine w_cons ?_)
    ((with_reducible refine' w_var ?hv ?_); (case hv => exact rfl))
    (with_reducible refine w_cons ?_)
    (with_reducible refine w_cb ?_)
    (with_reducible refine w_cons ?_)
    ((with_reducible refine' w_var ?hv ?_); (case hv => exact rfl))
    (with_reducible refine w_nil ?_)
    ((with_reducible refine' w_lenL ?hh ?_); (case hh => assumption))
    (with_reducible refine w_nil ?_)
    refine w_take hd1 (by rw [List.length_map]; omega) (by rw [List.length_map]; omega) fun y H2 y0 y1 hd2 b2 => ?_
    rw [List.length_map] at y1
    have ly : y.toNat < ws.length := by omega
    obtain ⟨x, ex⟩ : ∃ x, ws[y.toNat]? = some x := ⟨_, List.getElem?_eq_getElem ly⟩
    refine w_ixL (b2 _ _ nw hw1) (atI_of y0 (by rw [List.getElem?_map, ex]; rfl)) ?_
    skip
    exact q x _ (.inr (List.mem_of_getElem? ex)) hd2 (b1.trans b2)
  · (with_reducible refine w_next ?_)
    (with_reducible refine w_ret ?_)
    (with_reducible refine w_op ?_)
    ((with_reducible refine' w_var ?hv ?_); (case hv => exact rfl))
    (with_reducible refine w_op ?_)
    (with_reducible refine w_op ?_)
    (with_reducible refine w_cb ?_)
    (with_reducible refine w_cons ?_)
    ((with_reducible refine' w_var ?hv ?_); (case hv => exact rfl))
    (with_reducible refine w_nil ?_)
    ((with_reducible refine' w_lenL ?hh ?_); (case hh => assumption))
    (with_reducible refine w_c ?_)
    (with_reducible refine w_I0 ?_)
    (with_reducible refine w_call ?_)
    (with_reducible refine w_cons ?_)
    ((with_reducible refine' w_var ?hv ?_); (case hv => exact rfl))
    (with_reducible refine w_cons ?_)
    (with_reducible refine w_cb ?_)
    (with_reducible refine w_cons ?_)
    (with_reducible refine w_cb ?_)
    (with_reducible refine w_cons ?_)
    ((with_reducible refine' w_var ?hv ?_); (case hv => exact rfl))
    (with_reducible refine w_nil ?_)
    ((with_reducible refine' w_lenL ?hh ?_); (case hh => assumption))
    (with_reducible refine w_cons ?_)
    (with_reducible refine w_c ?_)
    (with_reducible refine w_nil ?_)
    refine ⟨_, _, rfl, ?_⟩
    (with_reducible refine w_nil ?_)
    rw [List.length_map]
    have hm : (if (8 : Int) < (ts.length : Int) then (8 : Int) else (ts.length : Int)) ≤ ts.length ∧ 0 < (if (8 : Int) < (ts.length : Int) then (8 : Int) else (ts.length : Int)) ∧ (if (8 : Int) < (ts.length : Int) then (8 : Int) else (ts.length : Int)) ≤ 8 := by
      split <;> omega
    refine w_take hd1 hm.2.1 (Int.le_trans hm.2.2 (by decide)) fun y H2 y0 y1 hd2 b2 => ?_
    (with_reducible refine w_I0 ?_)
    have y2 : y < ts.length := Int.lt_of_lt_of_le y1 hm.1
    have ly : ((ts.length : Int) - 1 - y).toNat < ts.length := by omega
    obtain ⟨x, ex⟩ : ∃ x, ts[((ts.length : Int) - 1 - y).toNat]? = some x := ⟨_, List.getElem?_eq_getElem ly⟩
    refine w_ixL (b2 _ _ nt ht1) (atI_of (by omega) (by rw [List.getElem?_map, ex]; rfl)) ?_
    skip
    exact q x _ (.inl (List.mem_of_getElem? ex)) hd2 (b1.trans b2)
theorem w_words {n : Nat} {H : Hp} {Q : VK} {d cc : Addr} (hn : n < 1000) (hd : DrawC H d cc) (q : ∀ (L : Addr) (xs : List Int) (H' : Hp), H L = none → xs.length = n → (∀ x ∈ xs, W32 x) → H' L = some (.lst (xs.map V.int)) → DrawC H' d cc → But d H H' → Q (.ref L) H') : kR1 (kLc (gName 1) tYes (tC1 spWord (tCons (tVar 0) tNil)) [1] (L2.start ["draw", "k"] [.ref d]) Q) [.int (n : Int)] H := by
  refine w_lcR n (fun D i H' => ∃ xs : List Int, xs.length = i ∧ (∀ x ∈ xs, W32 x) ∧ H' D = some (.lst (xs.map V.int)) ∧ DrawC H' d cc ∧ H D = none ∧ But d H H') (by simp) (by omega) (fun D nD => ⟨[], rfl, by simp, upd_same, hd.same (Same.new nD), nD, fun b o hb h => Same.new nD _ _ h⟩) (fun D i H1 hi h => ?_) (fun D H1 nD h => ?_)
  · obtain ⟨xs, l, hx, hD, hd1, nD, b1⟩ := h
    (with_reducible refine w_name ?_)
    refine ⟨rfl, ?_⟩
    (with_reducible refine w_yes ?_)
    (with_reducible refine w_itT ?_)
    (with_reducible refine w_call ?_)
    (with_reducible refine w_cons ?_)
    ((with_reducible refine' w_var ?hv ?_); (case hv => exact rfl))
    (with_reducible refine w_nil ?_)
    refine ⟨d, cc, rfl, hd1, fun y H2 hy hd2 b2 => ?_⟩
    have nDd : D ≠ d := hd.ne nD
    refine ⟨_, b2 _ _ nDd hD, by rw [List.length_map, sizeLine_eq]; omega, xs ++ [y], by rw [List.length_append, l]; rfl, fun x hx' => ?_, by rw [upd_same, List.map_append]; rfl, ?_, nD, fun b o hb h => ?_⟩
    · rcases List.mem_append.mp hx' with z | z
      · exact hx x z
      · obtain rfl := List.mem_singleton.mp z
        exact hy
    · refine hd2.keep (fun o h => by rw [upd_ne (Ne.symm nDd)]; exact h) (fun o h => by rw [upd_ne (Ne.symm (hd.nec nD))]; exact h)
    · rw [upd_ne (ne_of_none h nD)]
      exact b2 _ _ hb (b1 _ _ hb h)
  · obtain ⟨xs, l, hx, hD, hd1, _, b1⟩ := h
    exact q D xs H1 nD l hx hD hd1 b1
theorem ok_law_lists (b_range : mg "range" = none) (c_law_word : Cd P w K mg base 2 "_law_word" spWord) (Z : St1 K mg "_law_lists" s_law_lists ["draw"]) : Cd P w K mg base 3 "_law_lists" spLists := by
  refine Z.cd sc_law_lists (fun vs H Q E h => by obtain ⟨d, cc, rfl, _⟩ := h; rfl) (fun f cdv A outer s H vs Q E hr h => ?_)
  obtain ⟨d, cc, rfl, hd, q⟩ := h
  refine ⟨_, (pss_one (ps_ret (pe_lst (pa_cons (pe_lc (own := [("k", 1)]) rfl sc_law_lists.nd (pi_range1 (by rfl) b_range (pa_cons pe_int pa_nil)) (blkOk_by (own := [("k", 1)]) (N := ["draw", "k"]) (sc := (defScope s_law_lists)) (by decide +kernel)) (fun _ _ _ _ _ => (pg_name (i := 1) sc_law_lists.nd rfl (.inl rfl))) (fun _ _ _ _ _ => pts_nil) (fun _ _ _ _ _ => (pe_cd c_law_word hr (by first | decide | omega) (by rfl) (pa_cons (pv 0) pa_nil)))) (pa_cons (pe_lc (own := [("k", 1)]) rfl sc_law_lists.nd (pi_range1 (by rfl) b_range (pa_cons pe_int pa_nil)) (blkOk_by (own := [("k", 1)]) (N := ["draw", "k"]) (sc := (defScope s_law_lists)) (by decide +kernel)) (fun _ _ _ _ _ => (pg_name (i := 1) sc_law_lists.nd rfl (.inl rfl))) (fun _ _ _ _ _ => pts_nil) (fun _ _ _ _ _ => (pe_cd c_law_word hr (by first | decide | omega) (by rfl) (pa_cons (pv 0) pa_nil)))) (pa_cons (pe_lc (own := [("k", 1)]) rfl sc_law_lists.nd (pi_range1 (by rfl) b_range (pa_cons pe_int pa_nil)) (blkOk_by (own := [("k", 1)]) (N := ["draw", "k"]) (sc := (defScope s_law_lists)) (by decide +kernel)) (fun _ _ _ _ _ => (pg_name (i := 1) sc_law_lists.nd rfl (.inl rfl))) (fun _ _ _ _ _ => pts_nil) (fun _ _ _ _ _ => (pe_cd c_law_word hr (by first | decide | omega) (by rfl) (pa_cons (pv 0) pa_nil)))) pa_nil)))))), ?_⟩
  (with_reducible refine w_ret ?_)
  (with_reducible refine w_lst ?_)
  (with_reducible refine w_cons ?_)
  (with_reducible refine w_lc ?_)
  (with_reducible refine w_rng1 ?_)
  (with_reducible refine w_cons ?_)
  (with_reducible refine w_c ?_)
  (with_reducible refine w_nil ?_)
  refine w_words (n := 16) (by decide) hd fun r1 x1 H1 n1 l1 o1 h1 hd1 b1 => ?_
  (with_reducible refine w_cons ?_)
  (with_reducible refine w_lc ?_)
  (with_reducible refine w_rng1 ?_)
  (with_reducible refine w_cons ?_)
  (with_reducible refine w_c ?_)
  (with_reducible refine w_nil ?_)
  refine w_words (n := 3) (by decide) hd1 fun r2 x2 H2 n2 l2 o2 h2 hd2 b2 => ?_
  (with_reducible refine w_cons ?_)
  (with_reducible refine w_lc ?_)
  (with_reducible refine w_rng1 ?_)
  (with_reducible refine w_cons ?_)
  (with_reducible refine w_c ?_)
  (with_reducible refine w_nil ?_)
  refine w_words (n := 3) (by decide) hd2 fun r3 x3 H3 n3 l3 o3 h3 hd3 b3 => ?_
  (with_reducible refine w_nil ?_)
  refine w_kLst (by show 3 ≤ sizeLine; decide) fun r H4 nr s4 hr4 => ?_
  have nn : ∀ (Ha Hb : Hp) (x : Addr), But d Ha Hb → Hb x = none → x ≠ d → Ha x = none := fun Ha Hb x b n nd => by
    cases e : Ha x with
    | none => rfl
    | some o => rw [b _ _ nd e] at n; cases n
  have nd2 : r2 ≠ d := hd1.ne n2
  have nd3 : r3 ≠ d := hd2.ne n3
  have nd1 : r1 ≠ d := hd.ne n1
  have nd4 : r ≠ d := hd3.ne nr
  exact q ⟨x1, x2, x3⟩ r r1 r2 r3 H4 ⟨⟨l1, o1⟩, ⟨l2, o2⟩, l3, o3⟩ hr4 ⟨s4 _ _ (b3 _ _ nd1 (b2 _ _ nd1 h1)), s4 _ _ (b3 _ _ nd2 h2), s4 _ _ h3⟩ (hd3.same s4) ⟨nn _ _ _ b1 (nn _ _ _ b2 (nn _ _ _ b3 nr nd4) nd4) nd4, n1, nn _ _ _ b1 n2 nd2, nn _ _ _ b1 (nn _ _ _ b2 n3 nd3) nd3⟩ (fun b o hb h => s4 _ _ (b3 _ _ hb (b2 _ _ hb (b1 _ _ hb h))))
theorem ok_law_leaf_value (Z : St1 K mg "_law_leaf_value" s_law_leaf_value ["node", "lists"]) : Cd P w K mg base 1 "_law_leaf_value" spLeafV := by
  refine Z.cd sc_law_leaf_value (fun vs H Q E h => by obtain ⟨a, r, r1, r2, r3, x, e, rfl, _⟩ := h; rfl) (fun f cdv A outer s H vs Q E hr h => ?_)
  obtain ⟨a, r, r1, r2, r3, x, e, rfl, hx, ⟨k, n, rfl, lo⟩, hr1, hE, eo, q⟩ := h
  refine ⟨_, (pss_cons (ps_if (pt_cmpR op_eq (pe_ix ix_tup (pv 0) pe_int (fun _ _ => rfl)) pe_str (nomark _)) (pss_one (ps_ret (pe_ix ix_tup (pv 0) pe_int (fun _ _ => rfl)))) pss_nil)
      (pss_cons (ps_if (pt_cmpR op_eq (pe_ix ix_tup (pv 0) pe_int (fun _ _ => rfl)) pe_str (nomark _)) (pss_one (ps_ret (pe_ix ix_list (pe_ix ix_list (pv 1) pe_int (fun _ _ => rfl)) (pe_ix ix_tup (pv 0) pe_int (fun _ _ => rfl)) (fun _ _ => rfl)))) pss_nil)
      (pss_cons (ps_if (pt_cmpR op_eq (pe_ix ix_tup (pv 0) pe_int (fun _ _ => rfl)) pe_str (nomark _)) (pss_one (ps_ret (pe_ix ix_list (pe_ix ix_list (pv 1) pe_int (fun _ _ => rfl)) (pe_ix ix_tup (pv 0) pe_int (fun _ _ => rfl)) (fun _ _ => rfl)))) pss_nil)
      (pss_one (ps_ret (pe_ix ix_list (pe_ix ix_list (pv 1) pe_int (fun _ _ => rfl)) (pe_ix ix_tup (pv 0) pe_int (fun _ _ => rfl)) (fun _ _ => rfl))))))), ?_⟩
  (with_reducible refine w_seq ?_)
  (with_reducible refine w_ifS ?_)
  (with_reducible refine w_test ?_)
  (with_reducible refine w_op ?_)
  (with_reducible refine w_op ?_)
  ((with_reducible refine' w_var ?hv ?_); (case hv => exact rfl))
  (with_reducible refine w_c ?_)
  ((with_reducible refine' w_ixT ?hh ?ha ?_); (case hh => assumption); (case ha => exact rfl))
  (with_reducible refine w_c ?_)
  (with_reducible refine w_eqS ?_)
  (with_reducible refine w_bl ?_)
  have go : ∀ L : List Int, n < L.length → atI (L.map V.int) (n : Int) = some (.int (L.getD n 0)) := fun L h => atI_nat (by rw [List.getElem?_map, List.getElem?_eq_getElem h, List.getD_eq_getElem?_getD, List.getElem?_eq_getElem h]; rfl)
  refine w_decF (leaf_name lo).1 ?_
  (with_reducible refine w_next ?_)
  (with_reducible refine w_seq ?_)
  (with_reducible refine w_ifS ?_)
  (with_reducible refine w_test ?_)
  (with_reducible refine w_op ?_)
  (with_reducible refine w_op ?_)
  ((with_reducible refine' w_var ?hv ?_); (case hv => exact rfl))
  (with_reducible refine w_c ?_)
  ((with_reducible refine' w_ixT ?hh ?ha ?_); (case hh => assumption); (case ha => exact rfl))
  (with_reducible refine w_c ?_)
  (with_reducible refine w_eqS ?_)
  (with_reducible refine w_bl ?_)
  rcases lo with ⟨rfl | rfl, hn⟩ | ⟨rfl | rfl, hn⟩
  · refine w_decF (by decide) ?_
    (with_reducible refine w_next ?_)
    (with_reducible refine w_seq ?_)
    (with_reducible refine w_ifS ?_)
    (with_reducible refine w_test ?_)
    (with_reducible refine w_op ?_)
    (with_reducible refine w_op ?_)
    ((with_reducible refine' w_var ?hv ?_); (case hv => exact rfl))
    (with_reducible refine w_c ?_)
    ((with_reducible refine' w_ixT ?hh ?ha ?_); (case hh => assumption); (case ha => exact rfl))
    (with_reducible refine w_c ?_)
    (with_reducible refine w_eqS ?_)
    (with_reducible refine w_bl ?_)
    refine w_decF (by decide) ?_
    (with_reducible refine w_next ?_)
    (with_reducible refine w_ret ?_)
    (with_reducible refine w_op ?_)
    (with_reducible refine w_op ?_)
    ((with_reducible refine' w_var ?hv ?_); (case hv => exact rfl))
    (with_reducible refine w_c ?_)
    ((with_reducible refine' w_ixL ?hh ?ha ?_); (case hh => assumption); (case ha => exact rfl))
    (with_reducible refine w_op ?_)
    ((with_reducible refine' w_var ?hv ?_); (case hv => exact rfl))
    (with_reducible refine w_c ?_)
    ((with_reducible refine' w_ixT ?hh ?ha ?_); (case hh => assumption); (case ha => exact rfl))
    exact w_ixL hE.a1 (go _ (by rw [eo.1.1]; exact hn)) q
  · refine w_decF (by decide) ?_
    (with_reducible refine w_next ?_)
    (with_reducible refine w_seq ?_)
    (with_reducible refine w_ifS ?_)
    (with_reducible refine w_test ?_)
    (with_reducible refine w_op ?_)
    (with_reducible refine w_op ?_)
    ((with_reducible refine' w_var ?hv ?_); (case hv => exact rfl))
    (with_reducible refine w_c ?_)
    ((with_reducible refine' w_ixT ?hh ?ha ?_); (case hh => assumption); (case ha => exact rfl))
    (with_reducible refine w_c ?_)
    (with_reducible refine w_eqS ?_)
    (with_reducible refine w_bl ?_)
    refine w_decF (by decide) ?_
    (with_reducible refine w_next ?_)
    (with_reducible refine w_ret ?_)
    (with_reducible refine w_op ?_)
    (with_reducible refine w_op ?_)
    ((with_reducible refine' w_var ?hv ?_); (case hv => exact rfl))
    (with_reducible refine w_c ?_)
    ((with_reducible refine' w_ixL ?hh ?ha ?_); (case hh => assumption); (case ha => exact rfl))
    (with_reducible refine w_op ?_)
    ((with_reducible refine' w_var ?hv ?_); (case hv => exact rfl))
    (with_reducible refine w_c ?_)
    ((with_reducible refine' w_ixT ?hh ?ha ?_); (case hh => assumption); (case ha => exact rfl))
    exact w_ixL hE.a1 (go _ (by rw [eo.1.1]; exact hn)) q
  · refine w_decT rfl ?_
    (with_reducible refine w_ret ?_)
    (with_reducible refine w_op ?_)
    (with_reducible refine w_op ?_)
    ((with_reducible refine' w_var ?hv ?_); (case hv => exact rfl))
    (with_reducible refine w_c ?_)
    ((with_reducible refine' w_ixL ?hh ?ha ?_); (case hh => assumption); (case ha => exact rfl))
    (with_reducible refine w_op ?_)
    ((with_reducible refine' w_var ?hv ?_); (case hv => exact rfl))
    (with_reducible refine w_c ?_)
    ((with_reducible refine' w_ixT ?hh ?ha ?_); (case hh => assumption); (case ha => exact rfl))
    exact w_ixL hE.a2 (go _ (by rw [eo.2.1.1]; exact hn)) q
  · refine w_decF (by decide) ?_
    (with_reducible refine w_next ?_)
    (with_reducible refine w_seq ?_)
    (with_reducible refine w_ifS ?_)
    (with_reducible refine w_test ?_)
    (with_reducible refine w_op ?_)
    (with_reducible refine w_op ?_)
    ((with_reducible refine' w_var ?hv ?_); (case hv => exact rfl))
    (with_reducible refine w_c ?_)
    ((with_reducible refine' w_ixT ?hh ?ha ?_); (case hh => assumption); (case ha => exact rfl))
    (with_reducible refine w_c ?_)
    (with_reducible refine w_eqS ?_)
    (with_reducible refine w_bl ?_)
    refine w_decT rfl ?_
    (with_reducible refine w_ret ?_)
    (with_reducible refine w_op ?_)
    (with_reducible refine w_op ?_)
    ((with_reducible refine' w_var ?hv ?_); (case hv => exact rfl))
    (with_reducible refine w_c ?_)
    ((with_reducible refine' w_ixL ?hh ?ha ?_); (case hh => assumption); (case ha => exact rfl))
    (with_reducible refine w_op ?_)
    ((with_reducible refine' w_var ?hv ?_); (case hv => exact rfl))
    (with_reducible refine w_c ?_)
    ((with_reducible refine' w_ixT ?hh ?ha ?_); (case hh => assumption); (case ha => exact rfl))
    exact w_ixL hE.a3 (go _ (by rw [eo.2.2.1]; exact hn)) q
end
end K30


open PySem.W
namespace K30
/-! linear forms of the normal terms -/
theorem coef_lo {L : List (Nat × Int)} {k : Nat} (h : ∀ p ∈ L, k < p.1) : coef L k = 0 := coef_zero fun p hp e => by have := h p hp; omega
theorem lasc_ext : ∀ (L M : List (Nat × Int)), L.Pairwise (fun a b => a.1 < b.1) → M.Pairwise (fun a b => a.1 < b.1) → (∀ p ∈ L, p.2 ≠ 0) → (∀ p ∈ M, p.2 ≠ 0) → (∀ k, coef L k = coef M k) → L = M
  | [], [], _, _, _, _, _ => rfl
  | [], q :: M, _, hM, _, nM, h => by
    have e := h q.1
    rw [coef_nil, coef_cons, if_pos rfl, coef_lo fun p hp => (List.pairwise_cons.mp hM).1 p hp] at e
    exact absurd (by omega) (nM q (List.mem_cons_self ..))
  | p :: L, [], hL, _, nL, _, h => by
    have e := h p.1
    rw [coef_nil, coef_cons, if_pos rfl, coef_lo fun q hq => (List.pairwise_cons.mp hL).1 q hq] at e
    exact absurd (by omega) (nL p (List.mem_cons_self ..))
  | p :: L, q :: M, hL, hM, nL, nM, h => by
    obtain ⟨l1, l2⟩ := List.pairwise_cons.mp hL
    obtain ⟨m1, m2⟩ := List.pairwise_cons.mp hM
    have np := nL p (List.mem_cons_self ..)
    have nq := nM q (List.mem_cons_self ..)
    have ep := h p.1
    have eq := h q.1
    rw [coef_cons, coef_cons, if_pos rfl, coef_lo fun r hr => l1 r hr] at ep
    rw [coef_cons, coef_cons, if_pos rfl, coef_lo fun r hr => m1 r hr] at eq
    have e1 : p.1 = q.1 := by
      rcases Nat.lt_trichotomy p.1 q.1 with z | z | z
      · rw [if_neg (by omega), coef_lo fun r hr => Nat.lt_trans z (m1 r hr)] at ep
        omega
      · exact z
      · rw [if_neg (by omega), coef_lo fun r hr => Nat.lt_trans z (l1 r hr)] at eq
        omega
    rw [if_pos e1.symm, e1, coef_lo fun r hr => m1 r hr] at ep
    have e2 : p.2 = q.2 := by omega
    have e3 : p = q := Prod.ext e1 e2
    subst e3
    rw [lasc_ext L M l2 m2 (fun r hr => nL r (List.mem_cons_of_mem _ hr)) (fun r hr => nM r (List.mem_cons_of_mem _ hr)) fun k => by
      have := h k
      rw [coef_cons, coef_cons] at this
      omega]
theorem lin_asc {ns : List Nd} (W : PWf ns) {t : Nat} (ht : t < ns.length) : (lin ns t).2.Pairwise (fun a b => a.1 < b.1) ∧ (∀ p ∈ (lin ns t).2, 1 ≤ p.2 ∧ p.2 < M32) ∧ W32 (lin ns t).1 := by
  obtain ⟨x, hx⟩ : ∃ x, ns[t]? = some x := ⟨_, List.getElem?_eq_getElem ht⟩
  have ok := W.ok t x hx
  rw [lin_of hx]
  have one : ∀ p ∈ [(t, (1 : Int))], 1 ≤ p.2 ∧ p.2 < M32 := fun p hp => by obtain rfl := List.mem_singleton.mp hp; exact ⟨by show (1 : Int) ≤ 1; decide, by show (1 : Int) < 4294967296; decide⟩
  cases x with
  | word w => exact ⟨.nil, by simp [linN], ok⟩
  | leaf a n => exact ⟨List.pairwise_singleton _ _, one, w0⟩
  | op a s u => exact ⟨List.pairwise_singleton _ _, one, w0⟩
  | sum c ps => exact ⟨ok.1.2.1, ok.1.2.2.1, ok.1.1⟩
theorem Cg.of_eq {a b : Int} (h : a % M32 = b % M32) : Cg a b := (Cg.mod a).symm.trans (by rw [h]; exact Cg.mod b)
/-- what a term stands for, over A -/
structure LinIs (ns : List Nd) (A : List Nat) (t : Nat) (c : Int) (f : Nat → Int) : Prop where
  lt : t < ns.length
  c1 : (lin ns t).1 = c % M32
  cf : ∀ k, coef (lin ns t).2 k % M32 = f k % M32
  su : ∀ q ∈ (lin ns t).2, q.1 ∈ A
theorem LinIs.pre {ns ms : List Nd} (h : ns <+: ms) {A : List Nat} {t : Nat} {c : Int} {f : Nat → Int} (l : LinIs ns A t c f) : LinIs ms A t c f := by
  refine ⟨Nat.lt_of_lt_of_le l.lt h.length_le, ?_, fun k => ?_, ?_⟩
  · rw [lin_pre h l.lt]; exact l.c1
  · rw [lin_pre h l.lt]; exact l.cf k
  · rw [lin_pre h l.lt]; exact l.su
theorem LinIs.cg {ns : List Nd} {A : List Nat} {t : Nat} {c d : Int} {f g : Nat → Int} (l : LinIs ns A t c f) (h1 : Cg c d) (h2 : ∀ k, Cg (f k) (g k)) : LinIs ns A t d g := ⟨l.lt, by rw [l.c1]; exact h1.eq, fun k => by rw [l.cf k]; exact (h2 k).eq, l.su⟩
theorem coef_w32 {L : List (Nat × Int)} (a : L.Pairwise fun a b => a.1 < b.1) (b : ∀ p ∈ L, 1 ≤ p.2 ∧ p.2 < M32) (k : Nat) : W32 (coef L k) := by
  induction L with
  | nil => exact w0
  | cons p r ih =>
    obtain ⟨a1, a2⟩ := List.pairwise_cons.mp a
    rw [coef_cons]
    split
    · rename_i e
      rw [coef_lo fun q hq => by rw [← e]; exact a1 q hq]
      have := b p (List.mem_cons_self ..)
      exact ⟨by omega, by have := this.2; show p.2 + 0 < 4294967296; simp only [M32] at this; omega⟩
    · rw [Int.zero_add]
      exact ih a2 fun q hq => b q (List.mem_cons_of_mem _ hq)
theorem LinIs.uniq {ns : List Nd} (W : PWf ns) {A B : List Nat} {a b : Nat} {c d : Int} {f g : Nat → Int} (l : LinIs ns A a c f) (m : LinIs ns B b d g) (h1 : Cg c d) (h2 : ∀ k, Cg (f k) (g k)) : a = b := by
  obtain ⟨la, lb, lc⟩ := lin_asc W l.lt
  obtain ⟨ma, mb, mc⟩ := lin_asc W m.lt
  refine lin_inj W l.lt m.lt (Prod.ext ?_ (lasc_ext _ _ la ma (fun p hp => by have := (lb p hp).1; omega) (fun p hp => by have := (mb p hp).1; omega) fun k => ?_))
  · rw [l.c1, m.c1]; exact h1.eq
  · have e := (l.cf k).trans ((h2 k).eq.trans (m.cf k).symm)
    rwa [mod_w32 (coef_w32 la lb k), mod_w32 (coef_w32 ma mb k)] at e
theorem coef_mul (c : Int) (k : Nat) : ∀ L : List (Nat × Int), coef (L.map fun q => (q.1, q.2 * c)) k = coef L k * c
  | [] => by rw [List.map_nil, coef_nil]; omega
  | p :: r => by
    rw [List.map_cons, coef_cons, coef_cons, coef_mul c k r, Int.add_mul]
    congr 1
    show (if p.1 = k then p.2 * c else 0) = _
    split <;> simp
theorem coef_tL (ns : List Nd) (k : Nat) : ∀ ps : List (Nat × Int), coef (tL ns ps) k = (ps.map fun p => coef (lin ns p.1).2 k * p.2).sum
  | [] => rfl
  | p :: r => by
    show coef ((lin ns p.1).2.map (fun q => (q.1, q.2 * p.2)) ++ tL ns r) k = coef (lin ns p.1).2 k * p.2 + (r.map fun p => coef (lin ns p.1).2 k * p.2).sum
    rw [coef_app, coef_mul, coef_tL ns k r]
theorem coef_canon {f : Nat → Int} {n k : Nat} : coef (canon f n) k = if k < n then f k else 0 := by
  by_cases h : k < n ∧ f k ≠ 0
  · rw [if_pos h.1]
    have asc := canon_asc f n
    have mem : (k, f k) ∈ canon f n := canon_mem.mpr ⟨h.1, h.2, rfl⟩
    generalize canon f n = L at asc mem
    induction L with
    | nil => cases mem
    | cons p r ih =>
      obtain ⟨a1, a2⟩ := List.pairwise_cons.mp asc
      rw [coef_cons]
      rcases List.mem_cons.mp mem with z | z
      · subst z
        rw [if_pos rfl, coef_lo fun q hq => a1 q hq]
        omega
      · have := a1 _ z
        rw [if_neg (by simp only at this; omega), ih a2 z]
        omega
  · rw [coef_zero fun p hp e => h (by obtain ⟨a, b, _⟩ := canon_mem.mp hp; rw [← e]; exact ⟨a, b⟩)]
    split
    · rename_i z
      have := fun y => h ⟨z, y⟩
      exact (Classical.not_not.mp this).symm
    · rfl
def e0 : Env3 := ⟨List.replicate 16 0, List.replicate 3 0, List.replicate 3 0⟩
theorem e0ok : e0.Ok := by
  refine ⟨⟨rfl, fun x hx => ?_⟩, ⟨rfl, fun x hx => ?_⟩, rfl, fun x hx => ?_⟩ <;> (rw [List.eq_of_mem_replicate hx]; exact w0)
theorem lin_word {ns : List Nd} {t : Nat} {w : Int} (h : wordOf ns t = some w) : lin ns t = (w, []) := by
  unfold wordOf at h
  cases hx : ns[t]? with
  | none => rw [hx] at h; cases h
  | some x =>
    rw [hx] at h
    cases x with
    | word v => cases h; rw [lin_of hx]; rfl
    | leaf _ _ => cases h
    | op _ _ _ => cases h
    | sum _ _ => cases h
theorem parts_st {o : Str} {s t : Nat} {x y : Option Int} {ps : List (Nat × Int)} (h : partsOf o s t x y = some ps) : ∀ p ∈ ps, p.1 = s ∨ p.1 = t := by
  unfold partsOf at h
  intro p hp
  split at h
  · cases h; simp only [List.mem_cons, List.not_mem_nil, or_false] at hp; rcases hp with rfl | rfl <;> simp
  · split at h
    · cases h; simp only [List.mem_cons, List.not_mem_nil, or_false] at hp; rcases hp with rfl | rfl <;> simp
    · split at h
      · split at h
        · cases h; obtain rfl := List.mem_singleton.mp hp; exact .inl rfl
        · cases h; obtain rfl := List.mem_singleton.mp hp; exact .inr rfl
        · cases h
      · split at h
        · split at h
          · cases h; obtain rfl := List.mem_singleton.mp hp; exact .inl rfl
          · cases h
        · cases h
theorem normal_lin {ns : List Nd} (W : PWf ns) {A : List Nat} {o : Str} {s t : Nat} {ps : List (Nat × Int)} (ho : IsOp o) (hs : s < ns.length) (ht : t < ns.length) (h : partsOf o s t (wordOf ns s) (wordOf ns t) = some ps) (hA : A.length ≤ 12) (hA2 : ∀ a ∈ A, a < ns.length)
    (su : ∀ p ∈ ps, ∀ q ∈ (lin ns p.1).2, q.1 ∈ A) : LinIs (normalF ns o s t).1 A (normalF ns o s t).2 (tB ns ps) (fun k => coef (tL ns ps) k) := by
  obtain ⟨hp, hv⟩ := parts_val W hs ht h
  have G := gNormal W ho hs ht
  have key : ∀ q ∈ tL ns ps, q.1 ∈ A := fun q hq => by
    obtain ⟨p, hp1, hq1⟩ := List.mem_flatMap.mp hq
    obtain ⟨r, hr, rfl⟩ := List.mem_map.mp hq1
    exact su p hp1 r hr
  have keyS : ∀ q ∈ tS ns ps, q.1 ∈ A := fun q hq => by
    obtain ⟨_, h2, _⟩ := canon_mem.mp hq
    apply Classical.byContradiction
    intro na
    apply h2
    unfold tC
    rw [coef_zero fun r hr e => na (by rw [← e]; exact key r hr)]
    rfl
  have l12 : (tS ns ps).length ≤ 12 := by
    have nd : ((tS ns ps).map (·.1)).Nodup := by
      have := canon_asc (tC ns ps) ns.length
      exact (List.pairwise_map.mpr (this.imp fun h => Nat.ne_of_lt h))
    have := List.Nodup.length_le_of_subset nd (l₂ := A) fun k hk => by
      obtain ⟨q, hq, rfl⟩ := List.mem_map.mp hk
      exact keyS q hq
    rw [List.length_map] at this
    omega
  have lS : ∀ k, coef (tS ns ps) k = coef (tL ns ps) k % M32 := fun k => by
    unfold tS
    rw [coef_canon]
    split
    · rfl
    · rename_i z
      exact (tC_zero W hp (Nat.le_of_not_lt z)).symm
  by_cases nb : ∃ x y, wordOf ns s = some x ∧ wordOf ns t = some y
  · obtain ⟨x, y, hx, hy⟩ := nb
    obtain ⟨gx, hgx⟩ := id ho
    have wx := wordOf_val (e := e0) W hx
    have wy := wordOf_val (e := e0) W hy
    have wo : W32 (opF o x y) := by rw [opF_of hgx]; exact word_of hgx wx.2.2 wy.2.2
    have lx : lin ns s = (x, []) := lin_word hx
    have ly : lin ns t = (y, []) := lin_word hy
    have st : ∀ p ∈ ps, lin ns p.1 = (val e0 ns p.1, []) := fun p hp' => by
      rcases parts_st h p hp' with z | z <;> rw [z]
      · rw [lx, wx.2.1]
      · rw [ly, wy.2.1]
    have e : normalF ns o s t = intern ns (.word (opF o x y)) := by unfold normalF; rw [hx, hy]
    obtain ⟨g, a, _⟩ := intern_goes W (x := .word (opF o x y)) wo
    have ln : lin (intern ns (.word (opF o x y))).1 (intern ns (.word (opF o x y))).2 = (opF o x y, []) := by rw [lin_of a]; rfl
    have tl0 : tL ns ps = [] := by
      unfold tL
      exact List.flatMap_eq_nil_iff.mpr fun p hp' => by rw [st p hp']; rfl
    rw [e]
    refine ⟨g.lt, ?_, fun k => ?_, fun q hq => ?_⟩
    · rw [ln]
      have := hv e0 e0ok
      rw [wx.2.1, wy.2.1, Int.zero_add] at this
      have e2 : (ps.map fun p => (lin ns p.1).1 * p.2) = ps.map fun p => p.2 * val e0 ns p.1 := List.map_congr_left fun p hp' => by rw [st p hp', Int.mul_comm]
      show opF o x y = (ps.map fun p => (lin ns p.1).1 * p.2).sum % M32
      rw [e2]
      exact this.symm
    · rw [ln, tl0]
    · rw [ln] at hq
      cases hq
  · have e := normalF_sum nb h l12
    obtain ⟨g, l⟩ := sumR_goes W (tS_ordered (base := tB ns ps) W hp l12)
    rw [e]
    refine ⟨g.lt, by rw [l], fun k => ?_, by rw [l]; exact keyS⟩
    rw [l]
    show coef (tS ns ps) k % M32 = _
    rw [lS, Int.emod_emod_of_dvd _ (Int.dvd_refl _)]
theorem isAdd : IsOp "add" := ⟨dAdd, by simp [tab13]⟩
theorem isSub : IsOp "sub" := ⟨dSub, by simp [tab13]⟩
theorem isMul : IsOp "mul" := ⟨dMul, by simp [tab13]⟩
section
variable {ns : List Nd} {A : List Nat} {s t : Nat} {c d v : Int} {f g : Nat → Int}
theorem add_lin (W : PWf ns) (hA : A.length ≤ 12) (hA2 : ∀ a ∈ A, a < ns.length) (l : LinIs ns A s c f) (m : LinIs ns A t d g) : LinIs (normalF ns "add" s t).1 A (normalF ns "add" s t).2 (c + d) (fun k => f k + g k) := by
  refine (normal_lin W isAdd l.lt m.lt (ps := [(s, 1), (t, 1)]) rfl hA hA2 fun p hp => ?_).cg ?_ fun k => ?_
  · simp only [List.mem_cons, List.not_mem_nil, or_false] at hp
    rcases hp with rfl | rfl
    · exact l.su
    · exact m.su
  · show Cg ((lin ns s).1 * 1 + ((lin ns t).1 * 1 + 0)) (c + d)
    rw [l.c1, m.c1, Int.mul_one, Int.mul_one, Int.add_zero]
    exact (Cg.mod c).add (Cg.mod d)
  · rw [coef_tL]
    show Cg (coef (lin ns s).2 k * 1 + (coef (lin ns t).2 k * 1 + 0)) (f k + g k)
    rw [Int.mul_one, Int.mul_one, Int.add_zero]
    exact (Cg.of_eq (l.cf k)).add (Cg.of_eq (m.cf k))
theorem sub_lin (W : PWf ns) (hA : A.length ≤ 12) (hA2 : ∀ a ∈ A, a < ns.length) (l : LinIs ns A s c f) (m : LinIs ns A t d g) : LinIs (normalF ns "sub" s t).1 A (normalF ns "sub" s t).2 (c - d) (fun k => f k - g k) := by
  refine (normal_lin W isSub l.lt m.lt (ps := [(s, 1), (t, top32)]) rfl hA hA2 fun p hp => ?_).cg ?_ fun k => ?_
  · simp only [List.mem_cons, List.not_mem_nil, or_false] at hp
    rcases hp with rfl | rfl
    · exact l.su
    · exact m.su
  · show Cg ((lin ns s).1 * 1 + ((lin ns t).1 * top32 + 0)) (c - d)
    rw [l.c1, m.c1, Int.mul_one, Int.add_zero]
    exact ((Cg.mod c).add ((Cg.mod d).mul top32)).trans ⟨d, by simp only [M32, top32]; omega⟩
  · rw [coef_tL]
    show Cg (coef (lin ns s).2 k * 1 + (coef (lin ns t).2 k * top32 + 0)) (f k - g k)
    rw [Int.mul_one, Int.add_zero]
    exact ((Cg.of_eq (l.cf k)).add ((Cg.of_eq (m.cf k)).mul top32)).trans ⟨g k, by simp only [M32, top32]; omega⟩
theorem mul_lin (W : PWf ns) (hA : A.length ≤ 12) (hA2 : ∀ a ∈ A, a < ns.length) (l : LinIs ns A s c f) (ht : t < ns.length) (hw : wordOf ns t = some v) : LinIs (normalF ns "mul" s t).1 A (normalF ns "mul" s t).2 (c * v) (fun k => f k * v) := by
  refine (normal_lin W isMul l.lt ht (ps := [(s, v)]) (by rw [hw]; cases wordOf ns s <;> rfl) hA hA2 fun p hp => ?_).cg ?_ fun k => ?_
  · obtain rfl := List.mem_singleton.mp hp
    exact l.su
  · show Cg ((lin ns s).1 * v + 0) (c * v)
    rw [l.c1, Int.add_zero]
    exact (Cg.mod c).mul v
  · rw [coef_tL]
    show Cg (coef (lin ns s).2 k * v + 0) (f k * v)
    rw [Int.add_zero]
    exact (Cg.of_eq (l.cf k)).mul v
theorem mulW_lin (W : PWf ns) (hA : A.length ≤ 12) (hA2 : ∀ a ∈ A, a < ns.length) (l : LinIs ns A t c f) (hs : s < ns.length) (hw : wordOf ns s = some v) (nw : wordOf ns t = none) : LinIs (normalF ns "mul" s t).1 A (normalF ns "mul" s t).2 (c * v) (fun k => f k * v) := by
  refine (normal_lin W isMul hs l.lt (ps := [(t, v)]) (by rw [hw, nw]; rfl) hA hA2 fun p hp => ?_).cg ?_ fun k => ?_
  · obtain rfl := List.mem_singleton.mp hp
    exact l.su
  · show Cg ((lin ns t).1 * v + 0) (c * v)
    rw [l.c1, Int.add_zero]
    exact (Cg.mod c).mul v
  · rw [coef_tL]
    show Cg (coef (lin ns t).2 k * v + 0) (f k * v)
    rw [Int.add_zero]
    exact (Cg.of_eq (l.cf k)).mul v
theorem word_lin (hs : s < ns.length) (hw : wordOf ns s = some v) (w : W32 v) : LinIs ns A s v fun _ => 0 := by
  refine ⟨hs, ?_, fun k => ?_, ?_⟩ <;> rw [lin_word hw]
  · exact (mod_w32 w).symm
  · rfl
  · exact fun q hq => by cases hq
theorem leaf_lin {n : Nat} {a : Str} (h : ns[s]? = some (.leaf a n)) (hm : s ∈ A) : LinIs ns A s 0 fun k => if s = k then 1 else 0 := by
  refine ⟨(List.getElem?_eq_some_iff.mp h).1, ?_, fun k => ?_, ?_⟩ <;> rw [lin_of h]
  · rfl
  · show coef [(s, 1)] k % M32 = _
    rw [coef_cons, coef_nil, Int.add_zero]
  · exact fun q hq => by obtain rfl := List.mem_singleton.mp hq; exact hm
end
end K30


open PySem.W
namespace K30
local macro_rules | `(tactic| walk_at "w1") => `(tactic| first
  | (with_reducible refine w_fld ?_)
  | (with_reducible refine w_md ?_)
  | (with_reducible refine w_iRv ?_))
theorem sc_law_sum_right : FnScope ["draw", "pool", "leaves", "parts", "k", "constant", "first", "part", "count", "extra", "second", "half"] ["draw", "pool", "leaves"] (defScope s_law_sum_right) := ⟨rfl, rfl, rfl, by decide +kernel, rfl, by decide +kernel, by decide +kernel⟩
theorem PoAt.butl {P : Program} {w : World} {C : Addr} {H H' : Hp} {p l d : Addr} {ns : List Nd} {x : Addr} {xs : List V} (h : PoAt P w C H p l d ns) (b : But x H H') (hx : H x = some (.lst xs)) (nl : l ≠ x) : PoAt P w C H' p l d ns := by
  obtain ⟨dx, ho⟩ := h.ob
  obtain ⟨as, es, h1, h2, h3, h4, h5⟩ := h.li
  have ne : ∀ {y : Addr} {o : HO}, H y = some o → (∀ k, o ≠ .lst k) → y ≠ x := fun e n => ne_of e hx (n _)
  have tp : Tps H H' := fun a xs e => b _ _ (ne e (by intro k z; cases z)) e
  exact ⟨h.wf, ⟨dx, b _ _ (ne ho (by intro k z; cases z)) ho⟩, as, es, b _ _ nl h1, b _ _ (ne h2 (by intro k z; cases z)) h2, h3, h4, fun j a y e1 e2 => ⟨(h5 j a y e1 e2).1.tps tp, (h5 j a y e1 e2).2⟩⟩
/-- the law's draw and its pool -/
structure LSt (P : Program) (w : World) (C dr cc p l d : Addr) (H : Hp) (ns : List Nd) : Prop where
  dw : DrawC H dr cc
  po : PoAt P w C H p l d ns
  n1 : dr ≠ l
  n2 : cc ≠ l
section
variable {P : Program} {w : World} {C dr cc p l d : Addr} {H H' : Hp} {ns : List Nd}
theorem LSt.hdl (S : LSt P w C dr cc p l d H ns) : (∃ xs, H dr = some (.lst xs)) ∧ ∃ xs, H cc = some (.lst xs) := by
  obtain ⟨cs, i, cur, seed, h1, h2, _⟩ := S.dw
  exact ⟨⟨_, h1⟩, _, h2⟩
theorem LSt.nd (S : LSt P w C dr cc p l d H ns) : dr ≠ d ∧ cc ≠ d := by
  obtain ⟨⟨xs, h1⟩, ys, h2⟩ := S.hdl
  obtain ⟨as, es, _, h3, _⟩ := S.po.li
  exact ⟨ne_of h1 h3 (by intro z; cases z), ne_of h2 h3 (by intro z; cases z)⟩
theorem LSt.same (S : LSt P w C dr cc p l d H ns) (s : Same H H') : LSt P w C dr cc p l d H' ns := ⟨S.dw.same s, S.po.same s, S.n1, S.n2⟩
theorem LSt.but (S : LSt P w C dr cc p l d H ns) (h : DrawC H' dr cc) (b : But dr H H') : LSt P w C dr cc p l d H' ns := by
  obtain ⟨⟨xs, h1⟩, _⟩ := S.hdl
  exact ⟨h, S.po.butl b h1 (Ne.symm S.n1), S.n1, S.n2⟩
theorem LSt.butl (S : LSt P w C dr cc p l d H ns) {x : Addr} {xs : List V} (b : But x H H') (hx : H x = some (.lst xs)) (a1 : dr ≠ x) (a2 : cc ≠ x) (a3 : l ≠ x) : LSt P w C dr cc p l d H' ns := ⟨S.dw.keep (fun o h => b _ _ a1 h) (fun o h => b _ _ a2 h), S.po.butl b hx a3, S.n1, S.n2⟩
theorem LSt.pool (S : LSt P w C dr cc p l d H ns) {ms : List Nd} (h : PoAt P w C H' p l d ms) (f : PFr l d H H') : LSt P w C dr cc p l d H' ms := ⟨S.dw.keep (fun o h => f _ _ S.n1 S.nd.1 h) (fun o h => f _ _ S.n2 S.nd.2 h), h, S.n1, S.n2⟩
theorem LSt.word (S : LSt P w C dr cc p l d H ns) {v : Int} {Q : VK} {E : XK} (hl : ns.length < 99000) (hv : W32 v) (q : ∀ (H' : Hp) (ms : List Nd) (r : Nat), LSt P w C dr cc p l d H' ms → PFr l d H H' → ns <+: ms → ms.length ≤ ns.length + 1 → r < ms.length → wordOf ms r = some v → Q (.int (r : Int)) H') : spWordP P w C [.ref p, .int v] H Q E := by
  obtain ⟨g, a, len⟩ := intern_goes S.po.wf (x := .word v) hv
  exact ⟨p, l, d, ns, v, rfl, S.po, by omega, hv, fun H' h f => q H' _ _ (S.pool h f) f g.pre len g.lt (by unfold wordOf; rw [a])⟩
theorem LSt.normal (S : LSt P w C dr cc p l d H ns) {o : Str} {s t : Nat} {Q : VK} {E : XK} (hl : ns.length < 99000) (ho : IsOp o) (hs : s < ns.length) (ht : t < ns.length) (q : ∀ (H' : Hp), LSt P w C dr cc p l d H' (normalF ns o s t).1 → PFr l d H H' → ns <+: (normalF ns o s t).1 → (normalF ns o s t).1.length ≤ ns.length + 2 → Q (.int ((normalF ns o s t).2 : Nat)) H') : spNormal P w C [.ref p, .str o, .int (s : Int), .int (t : Int)] H Q E := by
  have G := (gNormal S.po.wf ho hs ht).go
  exact ⟨p, l, d, ns, o, s, t, rfl, S.po, hl, ho, hs, ht, fun H' h f => q H' (S.pool h f) f G.pre G.len⟩
end
/-- a list of pairs -/
def PaL (H : Hp) (L : Addr) (ps : List (Nat × Int)) : Prop := ∃ rs : List Addr, H L = some (.lst (rs.map V.ref)) ∧ rs.length = ps.length ∧ ∀ (i : Nat) (r : Addr) (q : Nat × Int), rs[i]? = some r → ps[i]? = some q → H r = some (.tup [.int (q.1 : Int), .int q.2])
theorem PaL.keep {H H' : Hp} {L : Addr} {ps : List (Nat × Int)} (h : PaL H L ps) (k : ∀ xs, H L = some (.lst xs) → H' L = some (.lst xs)) (t : Tps H H') : PaL H' L ps := by
  obtain ⟨rs, h1, h2, h3⟩ := h
  exact ⟨rs, k _ h1, h2, fun i r q e1 e2 => t _ _ (h3 i r q e1 e2)⟩
theorem PaL.snoc {H H' : Hp} {L r : Addr} {ps : List (Nat × Int)} {q : Nat × Int} (h : PaL H L ps) (hr : H' r = some (.tup [.int (q.1 : Int), .int q.2])) (t : Tps H H') (e : ∀ rs : List Addr, H L = some (.lst (rs.map V.ref)) → H' L = some (.lst ((rs ++ [r]).map V.ref))) : PaL H' L (ps ++ [q]) := by
  obtain ⟨rs, h1, h2, h3⟩ := h
  refine ⟨rs ++ [r], e rs h1, by rw [List.length_append, List.length_append, h2]; rfl, fun i r' q' e1 e2 => ?_⟩
  by_cases lt : i < rs.length
  · rw [List.getElem?_append_left lt] at e1
    rw [List.getElem?_append_left (by omega)] at e2
    exact t _ _ (h3 i r' q' e1 e2)
  · have hi : i < (rs ++ [r]).length := (List.getElem?_eq_some_iff.mp e1).1
    rw [List.length_append, List.length_singleton] at hi
    have : i = rs.length := by omega
    subst this
    rw [List.getElem?_append_right (Nat.le_refl _), Nat.sub_self] at e1
    rw [h2, List.getElem?_append_right (Nat.le_refl _), Nat.sub_self] at e2
    cases e1
    cases e2
    exact hr
def spSumRight (P : Program) (w : World) (C : Addr) : Sp := fun vs H Q _ => ∃ (dr cc p l d lv : Addr) (ns : List Nd) (A : List Nat), vs = [.ref dr, .ref p, .ref lv] ∧ DrawC H dr cc ∧ PoAt P w C H p l d ns ∧ ns.length < 98000 ∧ LstN H lv A ∧ A.length = 6 ∧ (∀ a ∈ A, ∃ k n, ns[a]? = some (.leaf k n)) ∧ dr ≠ l ∧ cc ≠ l ∧ lv ≠ l ∧ lv ≠ dr ∧ ∀ H', Q (.bl true) H'
section
variable {P : Program} {w : World} {K : PySem.W.Frag} {mg : Str → Option Value} {base : Heap} {C_Pool : Addr}
theorem ok_law_sum_right (b_range : mg "range" = none) (b_len : mg "len" = none) (b_reversed : mg "reversed" = none) (c_law_take : Cd P w K mg base 1 "_law_take" spTake) (c_law_word : Cd P w K mg base 2 "_law_word" spWord) (T_Pool : Ob K C_Pool poN) (m_Pool_word : Md P w K mg base 2 C_Pool "word" (spWordP P w C_Pool)) (m_Pool_normal : Md P w K mg base 5 C_Pool "normal" (spNormal P w C_Pool)) (Z : St1 K mg "_law_sum_right" s_law_sum_right ["draw", "pool", "leaves"]) : Cd P w K mg base 6 "_law_sum_right" (spSumRight P w C_Pool) := by
  refine Z.cd sc_law_sum_right (fun vs H Q E h => by obtain ⟨dr, cc, p, l, d, lv, ns, A, rfl, _⟩ := h; rfl) (fun f cdv A' outer s H vs Q E hr h => ?_)
  obtain ⟨dr, cc, p, l, d, lv, ns, A, rfl, hd, hP, hn, hA, lA, hL, n1, n2, n3, n4, q⟩ := h
  refine ⟨_, (pss_cons (ps_set (i := 3) sc_law_sum_right.nd rfl (.inl rfl) (pe_lst pa_nil))
      (pss_cons (ps_for PassesOwn.never rfl (pi_range1 (by rfl) b_range (pa_cons (pe_op op_add pe_int (pe_cd c_law_take hr (by first | decide | omega) (by rfl) (pa_cons (pv 0) (pa_cons pe_int pa_nil)))) pa_nil)) (pg_name (i := 4) sc_law_sum_right.nd rfl (.inl rfl))
      (pss_one (ps_expr (pe_bm PySem.F.plainAttrs_list PySem.F.slot_list_append PySem.F.type_list_append mt_append (pv 3) (pa_cons (pe_tup (pa_cons (pe_ix ix_list (pv 2) (pe_cd c_law_take hr (by first | decide | omega) (by rfl) (pa_cons (pv 0) (pa_cons (pe_callB call_lenQ (by rfl) b_len PySem.boot_len (pa_cons (pv 2) pa_nil)) pa_nil))) (fun _ _ => rfl)) (pa_cons (pe_cd c_law_word hr (by first | decide | omega) (by rfl) (pa_cons (pv 0) pa_nil)) pa_nil))) pa_nil)))))
      (pss_cons (ps_set (i := 5) sc_law_sum_right.nd rfl (.inl rfl) (pe_cd c_law_word hr (by first | decide | omega) (by rfl) (pa_cons (pv 0) pa_nil)))
      (pss_cons (ps_set (i := 6) sc_law_sum_right.nd rfl (.inl rfl) (pe_md T_Pool.cl m_Pool_word hr (by first | decide | omega) (pv 1) (pa_cons (pv 5) pa_nil)))
      (pss_cons (ps_for PassesOwn.never rfl (pi_list (pv 3)) (pg_tup rfl (pgs_cons (pg_name (i := 7) sc_law_sum_right.nd rfl (.inl rfl)) (pgs_cons (pg_name (i := 8) sc_law_sum_right.nd rfl (.inl rfl)) pgs_nil)))
      (pss_one (ps_set (i := 6) sc_law_sum_right.nd rfl (.inl rfl) (pe_md T_Pool.cl m_Pool_normal hr (by first | decide | omega) (pv 1) (pa_cons pe_str (pa_cons (pv 6) (pa_cons (pe_md T_Pool.cl m_Pool_normal hr (by first | decide | omega) (pv 1) (pa_cons pe_str (pa_cons (pv 7) (pa_cons (pe_md T_Pool.cl m_Pool_word hr (by first | decide | omega) (pv 1) (pa_cons (pv 8) pa_nil)) pa_nil)))) pa_nil)))))))
      (pss_cons (ps_set (i := 9) sc_law_sum_right.nd rfl (.inl rfl) (pe_ix ix_list (pv 2) (pe_cd c_law_take hr (by first | decide | omega) (by rfl) (pa_cons (pv 0) (pa_cons (pe_callB call_lenQ (by rfl) b_len PySem.boot_len (pa_cons (pv 2) pa_nil)) pa_nil))) (fun _ _ => rfl)))
      (pss_cons (ps_set (i := 10) sc_law_sum_right.nd rfl (.inl rfl) (pe_md T_Pool.cl m_Pool_normal hr (by first | decide | omega) (pv 1) (pa_cons pe_str (pa_cons (pe_md T_Pool.cl m_Pool_word hr (by first | decide | omega) (pv 1) (pa_cons pe_int pa_nil)) (pa_cons (pv 9) pa_nil)))))
      (pss_cons (ps_for PassesOwn.never rfl (pi_reversed (by rfl) b_reversed (pa_cons (pv 3) pa_nil)) (pg_tup rfl (pgs_cons (pg_name (i := 7) sc_law_sum_right.nd rfl (.inl rfl)) (pgs_cons (pg_name (i := 8) sc_law_sum_right.nd rfl (.inl rfl)) pgs_nil)))
      (pss_cons (ps_set (i := 11) sc_law_sum_right.nd rfl (.inl rfl) (pe_op op_fdiv (pv 8) pe_int))
      (pss_cons (ps_set (i := 10) sc_law_sum_right.nd rfl (.inl rfl) (pe_md T_Pool.cl m_Pool_normal hr (by first | decide | omega) (pv 1) (pa_cons pe_str (pa_cons (pe_md T_Pool.cl m_Pool_normal hr (by first | decide | omega) (pv 1) (pa_cons pe_str (pa_cons (pe_md T_Pool.cl m_Pool_word hr (by first | decide | omega) (pv 1) (pa_cons (pv 11) pa_nil)) (pa_cons (pv 7) pa_nil)))) (pa_cons (pv 10) pa_nil)))))
      (pss_one (ps_set (i := 10) sc_law_sum_right.nd rfl (.inl rfl) (pe_md T_Pool.cl m_Pool_normal hr (by first | decide | omega) (pv 1) (pa_cons pe_str (pa_cons (pv 10) (pa_cons (pe_md T_Pool.cl m_Pool_normal hr (by first | decide | omega) (pv 1) (pa_cons pe_str (pa_cons (pv 7) (pa_cons (pe_md T_Pool.cl m_Pool_word hr (by first | decide | omega) (pv 1) (pa_cons (pe_op op_and (pe_op op_sub (pv 11) (pv 8)) pe_int) pa_nil)) pa_nil)))) pa_nil)))))))))
      (pss_cons (ps_set (i := 10) sc_law_sum_right.nd rfl (.inl rfl) (pe_md T_Pool.cl m_Pool_normal hr (by first | decide | omega) (pv 1) (pa_cons pe_str (pa_cons (pe_md T_Pool.cl m_Pool_normal hr (by first | decide | omega) (pv 1) (pa_cons pe_str (pa_cons (pv 9) (pa_cons (pe_md T_Pool.cl m_Pool_word hr (by first | decide | omega) (pv 1) (pa_cons (pe_op op_and (pe_op op_add (pv 5) pe_int) pe_int) pa_nil)) pa_nil)))) (pa_cons (pv 10) pa_nil)))))
      (pss_one (ps_ret (pe_cmpR op_eq (pe_md T_Pool.cl m_Pool_normal hr (by first | decide | omega) (pv 1) (pa_cons pe_str (pa_cons (pv 10) (pa_cons (pe_md T_Pool.cl m_Pool_word hr (by first | decide | omega) (pv 1) (pa_cons pe_int pa_nil)) pa_nil)))) (pv 6) (nomark _))))))))))))), ?_⟩
  (with_reducible refine w_seq ?_)
  (with_reducible refine w_asg ?_)
  (with_reducible refine w_lst ?_)
  (with_reducible refine w_nil ?_)
  refine w_kLst (by show 0 ≤ sizeLine; decide) fun pl H1 npl s1 hpl => ?_
  (with_reducible refine w_name ?_)
  (with_reducible refine w_seq ?_)
  (with_reducible refine w_for ?_)
  (with_reducible refine w_rng1 ?_)
  (with_reducible refine w_cons ?_)
  (with_reducible refine w_op ?_)
  (with_reducible refine w_c ?_)
  (with_reducible refine w_call ?_)
  (with_reducible refine w_cons ?_)
  ((with_reducible refine' w_var ?hv ?_); (case hv => exact rfl))
  (with_reducible refine w_cons ?_)
  (with_reducible refine w_c ?_)
  (with_reducible refine w_nil ?_)
  refine w_take (hd.same s1) (by decide) (by decide) fun m H2 m0 m1 hd2 b2 => ?_
  (with_reducible refine w_I0 ?_)
  (with_reducible refine w_nil ?_)
  have S : LSt P w C_Pool dr cc p l d H2 ns := (LSt.mk hd hP n1 n2 : LSt P w C_Pool dr cc p l d H ns).same s1 |>.but hd2 b2
  obtain ⟨⟨xdr, hdr⟩, xcc, hcc⟩ := (LSt.mk hd hP n1 n2 : LSt P w C_Pool dr cc p l d H ns).hdl
  obtain ⟨asl, esd, hll, hdd, _⟩ := hP.li
  have pld : pl ≠ d := fun z => by rw [z, hdd] at npl; cases npl
  have lvd : lv ≠ d := ne_of hA hdd (by intro z; cases z)
  have pdr : dr ≠ pl := ne_of_none hdr npl
  have pcc : cc ≠ pl := ne_of_none hcc npl
  have pll : l ≠ pl := ne_of_none hll npl
  have plv : lv ≠ pl := ne_of_none hA npl
  have hA2 : LstN H2 lv A := b2 _ _ n4 (s1 _ _ hA)
  have hp2 : PaL H2 pl [] := ⟨[], b2 _ _ (Ne.symm pdr) hpl, rfl, fun i r q e => by simp at e⟩
  refine w_forR (1 + m).toNat (fun i σ' H' => ∃ a4 ps, σ' = [some (.ref dr), some (.ref p), some (.ref lv), some (.ref pl), a4, none, none, none, none, none, none, none] ∧ LSt P w C_Pool dr cc p l d H' ns ∧ PaL H' pl ps ∧ ps.length = i ∧ (∀ q ∈ ps, q.1 ∈ A ∧ W32 q.2) ∧ LstN H' lv A) rfl (by omega) ⟨none, [], rfl, S, hp2, rfl, by simp, hA2⟩ (fun i σ' H' hi h => ?_) (fun σ' H' h => ?_)
  · obtain ⟨a4, ps, rfl, S, hp, lp, okp, hA3⟩ := h
    obtain ⟨rs, hr0, lr, hrs⟩ := id hp
    (with_reducible refine w_name ?_)
    (with_reducible refine w_drop ?_)
    (with_reducible refine w_bm ?_)
    ((with_reducible refine' w_var ?hv ?_); (case hv => exact rfl))
    ((with_reducible refine' w_tyL ?hh ?_); (case hh => assumption))
    (with_reducible refine w_cons ?_)
    (with_reducible refine w_tup ?_)
    (with_reducible refine w_cons ?_)
    (with_reducible refine w_op ?_)
    ((with_reducible refine' w_var ?hv ?_); (case hv => exact rfl))
    (with_reducible refine w_call ?_)
    (with_reducible refine w_cons ?_)
    ((with_reducible refine' w_var ?hv ?_); (case hv => exact rfl))
    (with_reducible refine w_cons ?_)
    (with_reducible refine w_cb ?_)
    (with_reducible refine w_cons ?_)
    ((with_reducible refine' w_var ?hv ?_); (case hv => exact rfl))
    (with_reducible refine w_nil ?_)
    ((with_reducible refine' w_lenL ?hh ?_); (case hh => assumption))
    (with_reducible refine w_nil ?_)
    rw [List.length_map, lA]
    refine w_take S.dw (by decide) (by decide) fun y H3 y0 y1 hd3 b3 => ?_
    have S3 := S.but hd3 b3
    obtain ⟨x, ex⟩ : ∃ x, A[y.toNat]? = some x := ⟨_, List.getElem?_eq_getElem (by omega)⟩
    refine w_ixL (b3 _ _ n4 hA3) (atI_of y0 (by rw [List.getElem?_map, ex]; rfl)) ?_
    (with_reducible refine w_cons ?_)
    (with_reducible refine w_call ?_)
    (with_reducible refine w_cons ?_)
    ((with_reducible refine' w_var ?hv ?_); (case hv => exact rfl))
    (with_reducible refine w_nil ?_)
    refine ⟨dr, cc, rfl, hd3, fun v H4 hv hd4 b4 => ?_⟩
    have S4 := S3.but hd4 b4
    (with_reducible refine w_nil ?_)
    refine w_kTup (by show 2 ≤ sizeLine; decide) fun r H5 nr s5 hr => ?_
    (with_reducible refine w_nil ?_)
    have k5 : ∀ xs, H' pl = some (.lst xs) → H5 pl = some (.lst xs) := fun xs e => s5 _ _ (b4 _ _ (Ne.symm pdr) (b3 _ _ (Ne.symm pdr) e))
    obtain ⟨⟨xd, hxd⟩, _⟩ := S.hdl
    obtain ⟨⟨xd3, hxd3⟩, _⟩ := S3.hdl
    have t5 : Tps H' H5 := fun a xs e => s5 _ _ (b4 _ _ (ne_of (b3 _ _ (ne_of e hxd (by intro z; cases z)) e) hxd3 (by intro z; cases z)) (b3 _ _ (ne_of e hxd (by intro z; cases z)) e))
    refine w_append (k5 _ hr0) (by rw [List.length_map, lr, lp, sizeLine_eq]; omega) fun H6 h6 b6 => ?_
    skip
    have S5 := S4.same s5
    have S6 := S5.butl b6 (k5 _ hr0) pdr pcc pll
    have t6 : Tps H' H6 := fun a xs e => b6 _ _ (ne_of (t5 _ _ e) (k5 _ hr0) (by intro z; cases z)) (t5 _ _ e)
    refine ⟨_, ps ++ [(x, v)], rfl, S6, hp.snoc (r := r) (q := (x, v)) (b6 _ _ (ne_of hr (k5 _ hr0) (by intro z; cases z)) hr) t6 (fun rs' e => ?_), by rw [List.length_append, lp]; rfl, fun q hq => ?_, b6 _ _ plv (s5 _ _ (b4 _ _ n4 (b3 _ _ n4 hA3)))⟩
    · rw [hr0] at e
      rw [h6]
      injection e with e
      injection e with e
      rw [e, List.map_append]
      rfl
    · rcases List.mem_append.mp hq with z | z
      · exact okp q z
      · obtain rfl := List.mem_singleton.mp z
        exact ⟨List.mem_of_getElem? ex, hv⟩
  · obtain ⟨a4, ps, rfl, S, hp, lp, okp, hA3⟩ := h
    (with_reducible refine w_seq ?_)
    (with_reducible refine w_asg ?_)
    (with_reducible refine w_call ?_)
    (with_reducible refine w_cons ?_)
    ((with_reducible refine' w_var ?hv ?_); (case hv => exact rfl))
    (with_reducible refine w_nil ?_)
    refine ⟨dr, cc, rfl, S.dw, fun c H7 hc hd7 b7 => ?_⟩
    have S7 := S.but hd7 b7
    obtain ⟨⟨xd, hxd⟩, _⟩ := S.hdl
    have hp7 : PaL H7 pl ps := hp.keep (fun xs e => b7 _ _ (Ne.symm pdr) e) (fun a xs e => b7 _ _ (ne_of e hxd (by intro z; cases z)) e)
    have hA7 : LstN H7 lv A := b7 _ _ n4 hA3
    obtain ⟨dx7, ho7⟩ := S7.po.ob
    (with_reducible refine w_name ?_)
    (with_reducible refine w_seq ?_)
    (with_reducible refine w_asg ?_)
    (with_reducible refine w_md ?_)
    ((with_reducible refine' w_var ?hv ?_); (case hv => exact rfl))
    refine w_kMd ho7 rfl ?_
    (with_reducible refine w_cons ?_)
    ((with_reducible refine' w_var ?hv ?_); (case hv => exact rfl))
    (with_reducible refine w_nil ?_)
    refine S7.word (by omega) hc fun H8 ms r S8 f8 pre8 len8 lr8 w8 => ?_
    (with_reducible refine w_name ?_)
    (with_reducible refine w_seq ?_)
    (with_reducible refine w_for ?_)
    (with_reducible refine w_iL ?_)
    ((with_reducible refine' w_var ?hv ?_); (case hv => exact rfl))
    have hp8 : PaL H8 pl ps := hp7.keep (fun xs e => f8 _ _ (Ne.symm pll) pld e) (S7.po.frTps f8)
    have hA8 : LstN H8 lv A := f8 _ _ n3 lvd hA7
    obtain ⟨rs, hrs, lrs, itm⟩ := id hp8
    have lA12 : A.length ≤ 12 := by omega
    have hAl : ∀ {ks : List Nd}, ns <+: ks → ∀ a ∈ A, a < ks.length := fun pre a ha => by
      obtain ⟨k, n, e⟩ := hL a ha
      exact (List.getElem?_eq_some_iff.mp (pre_get' pre e)).1
    have lfA : ∀ {ks : List Nd}, ns <+: ks → ∀ a ∈ A, LinIs ks A a 0 (fun k => if a = k then 1 else 0) ∧ wordOf ks a = none := fun pre a ha => by
      obtain ⟨k, n, e⟩ := hL a ha
      have e' := pre_get' pre e
      exact ⟨leaf_lin e' ha, by unfold wordOf; rw [e']⟩
    refine w_forL (rs.map V.ref) (fun i σ' H' => ∃ (ms : List Nd) (r : Nat) (a7 a8 : Option V), σ' = [some (.ref dr), some (.ref p), some (.ref lv), some (.ref pl), a4, some (.int c), some (.int (r : Int)), a7, a8, none, none, none] ∧ LSt P w C_Pool dr cc p l d H' ms ∧ ns <+: ms ∧ ms.length ≤ ns.length + 1 + 5 * i ∧ LinIs ms A r c (fun k => coef (ps.take i) k) ∧ PaL H' pl ps ∧ LstN H' lv A ∧ H' pl = some (.lst (rs.map V.ref)) ∧ ∀ (i : Nat) (r : Addr) (q : Nat × Int), rs[i]? = some r → ps[i]? = some q → H' r = some (.tup [.int (q.1 : Int), .int q.2])) (.of hrs) ?_ (fun i σ' H' li h => ?_) (fun i y σ' H' hy h => ?_) (fun σ' H' h => ?_)
    · exact ⟨ms, r, none, none, rfl, S8, pre8, by omega, word_lin lr8 w8 hc, hp8, hA8, hrs, itm⟩
    · obtain ⟨ms, r, a7, a8, _, _, _, _, _, _, _, e, _⟩ := h
      exact .of e
    · obtain ⟨ms, r, a7, a8, rfl, Sm, prm, lm, Lm, hpm, hAm, hrm, itm'⟩ := h
      rw [List.getElem?_map] at hy
      obtain ⟨pr, epr, rfl⟩ := Option.map_eq_some_iff.mp hy
      have li : i < ps.length := by have := (List.getElem?_eq_some_iff.mp epr).1; omega
      obtain ⟨⟨x, v⟩, eq⟩ : ∃ q, ps[i]? = some q := ⟨_, List.getElem?_eq_getElem li⟩
      have qm := okp _ (List.mem_of_getElem? eq)
      have hpr := itm' i pr _ epr eq
      obtain ⟨dxm, hom⟩ := Sm.po.ob
      have li6 : i < 6 := by omega
      refine w_gTup hpr rfl ?_
      (with_reducible refine w_gCons ?_)
      (with_reducible refine w_name ?_)
      (with_reducible refine w_gCons ?_)
      (with_reducible refine w_name ?_)
      (with_reducible refine w_gNil ?_)
      (with_reducible refine w_asg ?_)
      (with_reducible refine w_md ?_)
      ((with_reducible refine' w_var ?hv ?_); (case hv => exact rfl))
      refine w_kMd hom rfl ?_
      (with_reducible refine w_cons ?_)
      (with_reducible refine w_c ?_)
      (with_reducible refine w_cons ?_)
      ((with_reducible refine' w_var ?hv ?_); (case hv => exact rfl))
      (with_reducible refine w_cons ?_)
      (with_reducible refine w_md ?_)
      ((with_reducible refine' w_var ?hv ?_); (case hv => exact rfl))
      refine w_kMd hom rfl ?_
      (with_reducible refine w_cons ?_)
      (with_reducible refine w_c ?_)
      (with_reducible refine w_cons ?_)
      ((with_reducible refine' w_var ?hv ?_); (case hv => exact rfl))
      (with_reducible refine w_cons ?_)
      (with_reducible refine w_md ?_)
      ((with_reducible refine' w_var ?hv ?_); (case hv => exact rfl))
      refine w_kMd hom rfl ?_
      (with_reducible refine w_cons ?_)
      ((with_reducible refine' w_var ?hv ?_); (case hv => exact rfl))
      (with_reducible refine w_nil ?_)
      refine Sm.word (by omega) qm.2 fun H9 m1 r1 S9 f9 p9 l9 lt9 w9 => ?_
      (with_reducible refine w_nil ?_)
      have pr9 := prm.trans p9
      refine S9.normal (by omega) isMul (hAl pr9 x qm.1) lt9 fun H10 S10 f10 p10 l10 => ?_
      (with_reducible refine w_nil ?_)
      have M1 := mul_lin S9.po.wf lA12 (hAl pr9) (lfA pr9 x qm.1).1 lt9 w9
      have pr10 := pr9.trans p10
      have Lr := (Lm.pre p9).pre p10
      refine S10.normal (by omega) isAdd Lr.lt M1.lt fun H11 S11 f11 p11 l11 => ?_
      (with_reducible refine w_name ?_)
      have M2 := add_lin S10.po.wf lA12 (hAl pr10) Lr M1
      have fall : PFr l d H' H11 := f9.trans (f10.trans f11)
      have tall : Tps H' H11 := Sm.po.frTps fall
      refine ⟨_, _, _, _, rfl, S11, pr10.trans p11, by omega, M2.cg (by rw [Int.zero_mul, Int.add_zero]; exact Cg.rfl' _) fun k => ?_, hpm.keep (fun xs e => fall _ _ (Ne.symm pll) pld e) tall, fall _ _ n3 lvd hAm, fall _ _ (Ne.symm pll) pld hrm, fun i r q e1 e2 => tall _ _ (itm' i r q e1 e2)⟩
      have e : coef (ps.take i) k + (if x = k then 1 else 0) * v = coef (ps.take (i + 1)) k := by
        rw [take_more eq, coef_app, coef_cons, coef_nil]
        congr 1
        split <;> simp
      rw [e]
      exact Cg.rfl' _
    · obtain ⟨ms, r, a7, a8, rfl, Sm, prm, lm, Lm, hpm, hAm, hrm, itm'⟩ := h
      (with_reducible refine w_seq ?_)
      (with_reducible refine w_asg ?_)
      (with_reducible refine w_op ?_)
      ((with_reducible refine' w_var ?hv ?_); (case hv => exact rfl))
      (with_reducible refine w_call ?_)
      (with_reducible refine w_cons ?_)
      ((with_reducible refine' w_var ?hv ?_); (case hv => exact rfl))
      (with_reducible refine w_cons ?_)
      (with_reducible refine w_cb ?_)
      (with_reducible refine w_cons ?_)
      ((with_reducible refine' w_var ?hv ?_); (case hv => exact rfl))
      (with_reducible refine w_nil ?_)
      ((with_reducible refine' w_lenL ?hh ?_); (case hh => assumption))
      (with_reducible refine w_nil ?_)
      rw [List.length_map] at lm Lm
      rw [List.length_map, lA]
      refine w_take Sm.dw (by decide) (by decide) fun y Hb y0 y1 hdb bb => ?_
      have Sb := Sm.but hdb bb
      obtain ⟨ex, hex⟩ : ∃ x, A[y.toNat]? = some x := ⟨_, List.getElem?_eq_getElem (by omega)⟩
      refine w_ixL (bb _ _ n4 hAm) (atI_of y0 (by rw [List.getElem?_map, hex]; rfl)) ?_
      have exA := List.mem_of_getElem? hex
      obtain ⟨dxb, hob⟩ := Sb.po.ob
      (with_reducible refine w_name ?_)
      (with_reducible refine w_seq ?_)
      (with_reducible refine w_asg ?_)
      (with_reducible refine w_md ?_)
      ((with_reducible refine' w_var ?hv ?_); (case hv => exact rfl))
      refine w_kMd hob rfl ?_
      (with_reducible refine w_cons ?_)
      (with_reducible refine w_c ?_)
      (with_reducible refine w_cons ?_)
      (with_reducible refine w_md ?_)
      ((with_reducible refine' w_var ?hv ?_); (case hv => exact rfl))
      refine w_kMd hob rfl ?_
      (with_reducible refine w_cons ?_)
      (with_reducible refine w_c ?_)
      (with_reducible refine w_nil ?_)
      refine Sb.word (by omega) w0 fun Hc mc rc Sc fc pc lc ltc wc => ?_
      (with_reducible refine w_cons ?_)
      ((with_reducible refine' w_var ?hv ?_); (case hv => exact rfl))
      (with_reducible refine w_nil ?_)
      have prc := prm.trans pc
      refine Sc.normal (by omega) isSub ltc (hAl prc ex exA) fun Hd Sd fd pd ld => ?_
      (with_reducible refine w_name ?_)
      (with_reducible refine w_seq ?_)
      (with_reducible refine w_for ?_)
      (with_reducible refine w_iRv ?_)
      (with_reducible refine w_cons ?_)
      ((with_reducible refine' w_var ?hv ?_); (case hv => exact rfl))
      (with_reducible refine w_nil ?_)
      have prd := prc.trans pd
      have D0 := sub_lin Sc.po.wf lA12 (hAl prc) (word_lin (A := A) ltc wc w0) (lfA prc ex exA).1
      have Ld := (Lm.pre pc).pre pd
      generalize eR : (normalF mc "sub" rc ex).2 = rd at *
      generalize eM : (normalF mc "sub" rc ex).1 = md at *
      have fall : PFr l d Hb Hd := fc.trans fd
      have tall : Tps Hb Hd := Sb.po.frTps fall
      obtain ⟨⟨xd2, hxd2⟩, _⟩ := Sm.hdl
      have tb : Tps H' Hb := fun a xs e => bb _ _ (ne_of e hxd2 (by intro z; cases z)) e
      have hpd : Hd pl = some (.lst (rs.map V.ref)) := fall _ _ (Ne.symm pll) pld (bb _ _ (Ne.symm pdr) hrm)
      have itd : ∀ (i : Nat) (r : Addr) (q : Nat × Int), rs[i]? = some r → ps[i]? = some q → Hd r = some (.tup [.int (q.1 : Int), .int q.2]) := fun i r q e1 e2 => tall _ _ (tb _ _ (itm' i r q e1 e2))
      have lps : ps.length ≤ 6 := by omega
      refine w_forRv (rs.map V.ref) (fun i σ' H' => ∃ (m2 : List Nd) (r2 : Nat) (a7 a8 a11 : Option V), σ' = [some (.ref dr), some (.ref p), some (.ref lv), some (.ref pl), a4, some (.int c), some (.int (r : Int)), a7, a8, some (.int (ex : Int)), some (.int (r2 : Int)), a11] ∧ LSt P w C_Pool dr cc p l d H' m2 ∧ md <+: m2 ∧ m2.length ≤ md.length + 10 * i ∧ LinIs m2 A r2 0 (fun k => coef (ps.drop (ps.length - i)) k - (if ex = k then 1 else 0)) ∧ H' pl = some (.lst (rs.map V.ref)) ∧ ∀ (i : Nat) (r : Addr) (q : Nat × Int), rs[i]? = some r → ps[i]? = some q → H' r = some (.tup [.int (q.1 : Int), .int q.2])) (.of hpd) ?_ (fun i σ' H' h => ?_) (fun i y σ' H' li hy h => ?_) (fun σ' H' h => ?_)
      · refine ⟨md, rd, _, _, _, rfl, Sd, List.prefix_refl _, by omega, D0.cg ⟨0, by omega⟩ fun k => ?_, hpd, itd⟩
        rw [Nat.sub_zero, List.drop_length, coef_nil]
        exact Cg.rfl' _
      · obtain ⟨_, _, _, _, _, _, _, _, _, _, e, _⟩ := h
        exact .of e
      · obtain ⟨m2, r2, a7, a8, a11, rfl, S2, p2, l2, L2', hp2, it2⟩ := h
        rw [List.length_map] at li hy
        rw [List.getElem?_map] at hy
        obtain ⟨pr, epr, rfl⟩ := Option.map_eq_some_iff.mp hy
        have lj : rs.length - 1 - i < ps.length := by omega
        obtain ⟨⟨x, v⟩, eq⟩ : ∃ q, ps[rs.length - 1 - i]? = some q := ⟨_, List.getElem?_eq_getElem lj⟩
        have qm := okp _ (List.mem_of_getElem? eq)
        have hpr := it2 _ pr _ epr eq
        obtain ⟨dxm, hom⟩ := S2.po.ob
        have li6 : i < 6 := by omega
        have v0 : 0 ≤ v := qm.2.1
        have v1 : v < 4294967296 := qm.2.2
        refine w_gTup hpr rfl ?_
        (with_reducible refine w_gCons ?_)
        (with_reducible refine w_name ?_)
        (with_reducible refine w_gCons ?_)
        (with_reducible refine w_name ?_)
        (with_reducible refine w_gNil ?_)
        (with_reducible refine w_seq ?_)
        (with_reducible refine w_asg ?_)
        (with_reducible refine w_op ?_)
        ((with_reducible refine' w_var ?hv ?_); (case hv => exact rfl))
        (with_reducible refine w_c ?_)
        ((with_reducible refine w_I ?hc ?_); (case hc => walk_at "side"))
        (with_reducible refine w_name ?_)
        (with_reducible refine w_seq ?_)
        (with_reducible refine w_asg ?_)
        (with_reducible refine w_md ?_)
        ((with_reducible refine' w_var ?hv ?_); (case hv => exact rfl))
        refine w_kMd hom rfl ?_
        (with_reducible refine w_cons ?_)
        (with_reducible refine w_c ?_)
        (with_reducible refine w_cons ?_)
        (with_reducible refine w_md ?_)
        ((with_reducible refine' w_var ?hv ?_); (case hv => exact rfl))
        refine w_kMd hom rfl ?_
        (with_reducible refine w_cons ?_)
        (with_reducible refine w_c ?_)
        (with_reducible refine w_cons ?_)
        (with_reducible refine w_md ?_)
        ((with_reducible refine' w_var ?hv ?_); (case hv => exact rfl))
        refine w_kMd hom rfl ?_
        (with_reducible refine w_cons ?_)
        ((with_reducible refine' w_var ?hv ?_); (case hv => exact rfl))
        (with_reducible refine w_nil ?_)
        refine S2.word (v := v / 2) (by omega) ⟨by omega, by omega⟩ fun H3 m3 r3 S3 f3 p3 l3 lt3 w3 => ?_
        (with_reducible refine w_cons ?_)
        ((with_reducible refine' w_var ?hv ?_); (case hv => exact rfl))
        (with_reducible refine w_nil ?_)
        have q3 := (prd.trans p2).trans p3
        refine S3.normal (by omega) isMul lt3 (hAl q3 x qm.1) fun H4 S4 f4 p4 l4 => ?_
        (with_reducible refine w_cons ?_)
        ((with_reducible refine' w_var ?hv ?_); (case hv => exact rfl))
        (with_reducible refine w_nil ?_)
        have q4 := q3.trans p4
        have M1 := mulW_lin S3.po.wf lA12 (hAl q3) (lfA q3 x qm.1).1 lt3 w3 (lfA q3 x qm.1).2
        have L4 := (L2'.pre p3).pre p4
        refine S4.normal (by omega) isAdd M1.lt L4.lt fun H5 S5 f5 p5 l5 => ?_
        have M2 := add_lin S4.po.wf lA12 (hAl q4) M1 L4
        have q5 := q4.trans p5
        obtain ⟨dx5, ho5⟩ := S5.po.ob
        (with_reducible refine w_name ?_)
        (with_reducible refine w_asg ?_)
        (with_reducible refine w_md ?_)
        ((with_reducible refine' w_var ?hv ?_); (case hv => exact rfl))
        refine w_kMd ho5 rfl ?_
        (with_reducible refine w_cons ?_)
        (with_reducible refine w_c ?_)
        (with_reducible refine w_cons ?_)
        ((with_reducible refine' w_var ?hv ?_); (case hv => exact rfl))
        (with_reducible refine w_cons ?_)
        (with_reducible refine w_md ?_)
        ((with_reducible refine' w_var ?hv ?_); (case hv => exact rfl))
        refine w_kMd ho5 rfl ?_
        (with_reducible refine w_cons ?_)
        (with_reducible refine w_c ?_)
        (with_reducible refine w_cons ?_)
        ((with_reducible refine' w_var ?hv ?_); (case hv => exact rfl))
        (with_reducible refine w_cons ?_)
        (with_reducible refine w_md ?_)
        ((with_reducible refine' w_var ?hv ?_); (case hv => exact rfl))
        refine w_kMd ho5 rfl ?_
        (with_reducible refine w_cons ?_)
        (with_reducible refine w_op ?_)
        (with_reducible refine w_op ?_)
        ((with_reducible refine' w_var ?hv ?_); (case hv => exact rfl))
        ((with_reducible refine' w_var ?hv ?_); (case hv => exact rfl))
        (with_reducible refine w_I0 ?_)
        (with_reducible refine w_c ?_)
        (with_reducible refine w_I0 ?_)
        (with_reducible refine w_nil ?_)
        rw [bitAnd_m32]
        refine S5.word (v := (v / 2 - v) % M32) (by omega) (w32_mod _) fun H6 m6 r6 S6 f6 p6 l6 lt6 w6 => ?_
        (with_reducible refine w_nil ?_)
        have q6 := q5.trans p6
        refine S6.normal (by omega) isMul (hAl q6 x qm.1) lt6 fun H7 S7 f7 p7 l7 => ?_
        (with_reducible refine w_nil ?_)
        have M3 := mul_lin S6.po.wf lA12 (hAl q6) (lfA q6 x qm.1).1 lt6 w6
        have q7 := q6.trans p7
        have L7 := (M2.pre p6).pre p7
        refine S7.normal (by omega) isSub L7.lt M3.lt fun H8 S8 f8 p8 l8 => ?_
        have M4 := sub_lin S7.po.wf lA12 (hAl q7) L7 M3
        (with_reducible refine w_name ?_)
        have fall : PFr l d _ H8 := f3.trans (f4.trans (f5.trans (f6.trans (f7.trans f8))))
        have tall : Tps _ H8 := S2.po.frTps fall
        refine ⟨_, _, _, _, _, rfl, S8, p2.trans (p3.trans (p4.trans (p5.trans (p6.trans (p7.trans p8))))), by omega, M4.cg ⟨0, by simp⟩ fun k => ?_, fall _ _ (Ne.symm pll) pld hp2, fun i r q e1 e2 => tall _ _ (it2 i r q e1 e2)⟩
        have ed : ps.drop (ps.length - (i + 1)) = (x, v) :: ps.drop (ps.length - i) := by
          have e1 : ps.length - (i + 1) = rs.length - 1 - i := by omega
          rw [e1, List.drop_eq_getElem_cons lj, (List.getElem?_eq_some_iff.mp eq).2]
          congr 2
          omega
        rw [ed, coef_cons]
        generalize coef (ps.drop (ps.length - i)) k = X
        generalize (if ex = k then (1 : Int) else 0) = Y
        by_cases z : x = k
        · rw [if_pos z, if_pos z]
          exact ⟨(v / 2 - v) / M32, by simp only [M32]; omega⟩
        · rw [if_neg z, if_neg z]
          exact ⟨0, by simp only [M32]; omega⟩
      · obtain ⟨m2, r2, a7, a8, a11, rfl, S2, p2, l2, L2', hp2, it2⟩ := h
        rw [List.length_map] at l2 L2'
        obtain ⟨dx2, ho2⟩ := S2.po.ob
        (with_reducible refine w_seq ?_)
        (with_reducible refine w_asg ?_)
        (with_reducible refine w_md ?_)
        ((with_reducible refine' w_var ?hv ?_); (case hv => exact rfl))
        refine w_kMd ho2 rfl ?_
        (with_reducible refine w_cons ?_)
        (with_reducible refine w_c ?_)
        (with_reducible refine w_cons ?_)
        (with_reducible refine w_md ?_)
        ((with_reducible refine' w_var ?hv ?_); (case hv => exact rfl))
        refine w_kMd ho2 rfl ?_
        (with_reducible refine w_cons ?_)
        (with_reducible refine w_c ?_)
        (with_reducible refine w_cons ?_)
        ((with_reducible refine' w_var ?hv ?_); (case hv => exact rfl))
        (with_reducible refine w_cons ?_)
        (with_reducible refine w_md ?_)
        ((with_reducible refine' w_var ?hv ?_); (case hv => exact rfl))
        refine w_kMd ho2 rfl ?_
        (with_reducible refine w_cons ?_)
        (with_reducible refine w_op ?_)
        (with_reducible refine w_op ?_)
        ((with_reducible refine' w_var ?hv ?_); (case hv => exact rfl))
        (with_reducible refine w_c ?_)
        (with_reducible refine w_I0 ?_)
        (with_reducible refine w_c ?_)
        (with_reducible refine w_I0 ?_)
        (with_reducible refine w_nil ?_)
        rw [bitAnd_m32]
        refine S2.word (v := (c + 7) % M32) (by omega) (w32_mod _) fun H3 m3 r3 S3 f3 p3 l3 lt3 w3 => ?_
        (with_reducible refine w_nil ?_)
        have q3 := (prd.trans p2).trans p3
        refine S3.normal (by omega) isAdd (hAl q3 ex exA) lt3 fun H4 S4 f4 p4 l4 => ?_
        (with_reducible refine w_cons ?_)
        ((with_reducible refine' w_var ?hv ?_); (case hv => exact rfl))
        (with_reducible refine w_nil ?_)
        have N1 := add_lin S3.po.wf lA12 (hAl q3) (lfA q3 ex exA).1 (word_lin (A := A) lt3 w3 (w32_mod _))
        have q4 := q3.trans p4
        have L4 := (L2'.pre p3).pre p4
        refine S4.normal (by omega) isAdd N1.lt L4.lt fun H5 S5 f5 p5 l5 => ?_
        have N2 := add_lin S4.po.wf lA12 (hAl q4) N1 L4
        obtain ⟨dx5, ho5⟩ := S5.po.ob
        (with_reducible refine w_name ?_)
        (with_reducible refine w_ret ?_)
        (with_reducible refine w_op ?_)
        (with_reducible refine w_md ?_)
        ((with_reducible refine' w_var ?hv ?_); (case hv => exact rfl))
        refine w_kMd ho5 rfl ?_
        (with_reducible refine w_cons ?_)
        (with_reducible refine w_c ?_)
        (with_reducible refine w_cons ?_)
        ((with_reducible refine' w_var ?hv ?_); (case hv => exact rfl))
        (with_reducible refine w_cons ?_)
        (with_reducible refine w_md ?_)
        ((with_reducible refine' w_var ?hv ?_); (case hv => exact rfl))
        refine w_kMd ho5 rfl ?_
        (with_reducible refine w_cons ?_)
        (with_reducible refine w_c ?_)
        (with_reducible refine w_nil ?_)
        refine S5.word (v := 7) (by omega) ⟨by decide, by decide⟩ fun H6 m6 r6 S6 f6 p6 l6 lt6 w6 => ?_
        (with_reducible refine w_nil ?_)
        have q6 := (q4.trans p5).trans p6
        have L6 := N2.pre p6
        refine S6.normal (by omega) isSub L6.lt lt6 fun H7 S7 f7 p7 l7 => ?_
        have N3 := sub_lin S6.po.wf lA12 (hAl q6) L6 (word_lin (A := A) lt6 w6 ⟨by decide, by decide⟩)
        have LF := (((((Ld.pre p2).pre p3).pre p4).pre p5).pre p6).pre p7
        ((with_reducible refine' w_var ?hv ?_); (case hv => exact rfl))
        (with_reducible refine w_eqI ?_)
        have e : (normalF m6 "sub" (normalF (normalF m3 "add" ex r3).1 "add" (normalF m3 "add" ex r3).2 r2).2 r6).2 = r := by
          refine N3.uniq S7.po.wf LF ⟨-((c + 7) / M32), by simp only [M32]; omega⟩ fun k => ?_
          rw [lrs, Nat.sub_self, List.drop_zero, List.take_length]
          exact ⟨0, by simp only [M32]; omega⟩
        rw [e, decide_eq_true rfl]
        exact q _
end
end K30


open PySem.W
namespace K30
theorem sc_law : FnScope ["script", "draw", "pool", "ops", "rows", "nodes", "leaves", "plain", "words", "values", "k", "terms", "op", "s", "t", "found", "due", "j", "node", "w", "row"] ["script"] (defScope s_law) := ⟨rfl, rfl, rfl, by decide +kernel, rfl, by decide +kernel, by decide +kernel⟩
local macro_rules | `(tactic| walk_at "w1") => `(tactic| first
  | (with_reducible refine w_fld ?_)
  | (with_reducible refine w_md ?_)
  | (with_reducible refine w_mkr ?_)
  | (with_reducible refine w_dget ?_)
  | (with_reducible refine w_dput ?_))
def spLaw (K : PySem.W.Frag) : Sp := fun vs H Q _ => ∃ (a : Addr) (ns : List Int), vs = [.ref a] ∧ SqL K H a (ns.map V.int) ∧ ns.length ≤ 63 ∧ ∀ H', Q (.bl true) H'
theorem LSt.term {P : Program} {w : World} {C dr cc p l d : Addr} {H : Hp} {ns : List Nd} (S : LSt P w C dr cc p l d H ns) {a : Addr} {x : Nd} {Q : VK} {E : XK} (hl : ns.length < 99000) (ha : NdAt H a x) (ok : x.Ok ns ns.length) (q : ∀ (H' : Hp) (ms : List Nd) (r : Nat), LSt P w C dr cc p l d H' ms → PFr l d H H' → ns <+: ms → ms.length ≤ ns.length + 1 → ms[r]? = some x → Q (.int (r : Int)) H') : spTerm P w C [.ref p, .ref a] H Q E := by
  obtain ⟨g, h, len⟩ := intern_goes S.po.wf ok
  exact ⟨p, l, d, ns, a, x, rfl, S.po, by omega, ha, ok, fun H' hP f => q H' _ _ (S.pool hP f) f g.pre len h⟩
abbrev leafNds : List Nd := [.leaf "in" 1, .leaf "in" 2, .leaf "loose" 3, .leaf "load" 0, .leaf "get" 1, .leaf "in" 15]
theorem leafNds_ok {x : Nd} (h : x ∈ leafNds) : ∃ k n, x = .leaf k n ∧ LeafOk k n := by
  simp only [leafNds, List.mem_cons, List.not_mem_nil, or_false] at h
  rcases h with rfl | rfl | rfl | rfl | rfl | rfl
  · exact ⟨_, _, rfl, .inl ⟨.inl rfl, by decide⟩⟩
  · exact ⟨_, _, rfl, .inl ⟨.inl rfl, by decide⟩⟩
  · exact ⟨_, _, rfl, .inl ⟨.inr rfl, by decide⟩⟩
  · exact ⟨_, _, rfl, .inr ⟨.inl rfl, by decide⟩⟩
  · exact ⟨_, _, rfl, .inr ⟨.inr rfl, by decide⟩⟩
  · exact ⟨_, _, rfl, .inl ⟨.inl rfl, by decide⟩⟩
/-- the leaves' nodes at their addresses -/
def NdsAt (H : Hp) (as : List Addr) : Prop := as.length = 6 ∧ ∀ (j : Nat) (a : Addr) (x : Nd), as[j]? = some a → leafNds[j]? = some x → NdAt H a x
theorem NdsAt.tps {H H' : Hp} {as : List Addr} (t : Tps H H') (h : NdsAt H as) : NdsAt H' as := ⟨h.1, fun j a x e1 e2 => (h.2 j a x e1 e2).tps t⟩
theorem word_at {ns : List Nd} {t : Nat} {v : Int} (h : wordOf ns t = some v) : ns[t]? = some (.word v) := by
  unfold wordOf at h
  cases hx : ns[t]? with
  | none => rw [hx] at h; cases h
  | some x =>
    rw [hx] at h
    cases x with
    | word v => cases h; rfl
    | leaf _ _ => cases h
    | op _ _ _ => cases h
    | sum _ _ => cases h
theorem word_shaped (v : Int) : SeqAt.shaped (.tuple [.str "word", .int v]) = true := by
  have h : PyData.strOk ("word" : Str) = true := by decide +kernel
  unfold SeqAt.shaped
  simp [PyData.canLay, PyData.canLay0, PyData.canLayAll0, PyData.depth, PyData.depthAll, h]
/-- lists that stay -/
structure Own (F : List Addr) (H : Hp) (b : Addr) (xs : List V) : Prop where
  nf : b ∉ F
  at_ : H b = some (.lst xs)
def FrD (F : List Addr) (H H' : Hp) : Prop := ∀ b xs, b ∉ F → H b = some (.lst xs) → H' b = some (.lst xs)
theorem FrD.of_but {F : List Addr} {H H' : Hp} {x : Addr} (b : But x H H') (h : x ∈ F) : FrD F H H' := fun y xs n e => b _ _ (fun z => n (z ▸ h)) e
theorem FrD.of_same {F : List Addr} {H H' : Hp} (b : Same H H') : FrD F H H' := fun x xs _ h => b _ _ h
theorem FrD.trans {F : List Addr} {H H1 H2 : Hp} (a : FrD F H H1) (b : FrD F H1 H2) : FrD F H H2 := fun x xs n h => b _ _ n (a _ _ n h)
theorem FrD.of_pool {F : List Addr} {P : Program} {w : World} {C dr cc p l d : Addr} {H H' : Hp} {ns : List Nd} (S : LSt P w C dr cc p l d H ns) (f : PFr l d H H') (h : l ∈ F) : FrD F H H' := fun x xs n e => by
  obtain ⟨as, es, _, h3, _⟩ := S.po.li
  exact f _ _ (fun z => n (z ▸ h)) (ne_of e h3 (by intro z; cases z)) e
theorem FrD.of_upd {F : List Addr} {H : Hp} {x : Addr} {o : HO} (h : x ∈ F) : FrD F H (upd H x o) := fun y xs n e => by rw [upd_ne fun z => n (by rw [z]; exact h)]; exact e
theorem FrD.sub {F G : List Addr} {H H' : Hp} (f : FrD F H H') (h : ∀ x ∈ F, x ∈ G) : FrD G H H' := fun b xs n e => f b xs (fun z => n (h _ z)) e
theorem Own.keep {F : List Addr} {H H' : Hp} {b : Addr} {xs : List V} (o : Own F H b xs) (f : FrD F H H') : Own F H' b xs := ⟨o.nf, f _ _ o.nf o.at_⟩
theorem Own.sub {F G : List Addr} {H : Hp} {b : Addr} {xs : List V} (o : Own F H b xs) (h : ∀ x ∈ G, x ∈ F) : Own G H b xs := ⟨fun z => o.nf (h _ z), o.at_⟩
theorem Own.more {F : List Addr} {H : Hp} {b x : Addr} {xs : List V} (o : Own F H b xs) (n : H x = none) : Own (x :: F) H b xs := ⟨fun z => (List.mem_cons.mp z).elim (fun e => by subst e; have q := o.at_; rw [n] at q; cases q) o.nf, o.at_⟩
abbrev Quad : Type := Addr × Addr × Addr × Addr
structure QAt (F : List Addr) (H : Hp) (q : Quad) (e : Env3) : Prop where
  ok : e.Ok
  o0 : Own F H q.1 [.ref q.2.1, .ref q.2.2.1, .ref q.2.2.2]
  o1 : Own F H q.2.1 (e.regs.map V.int)
  o2 : Own F H q.2.2.1 (e.loads.map V.int)
  o3 : Own F H q.2.2.2 (e.gets.map V.int)
theorem QAt.keep {F : List Addr} {H H' : Hp} {q : Quad} {e : Env3} (o : QAt F H q e) (f : FrD F H H') : QAt F H' q e := ⟨o.ok, o.o0.keep f, o.o1.keep f, o.o2.keep f, o.o3.keep f⟩
/-- quads and environments, item by item -/
def QsAt (F : List Addr) (H : Hp) : List Quad → List Env3 → Prop
  | [], [] => True
  | q :: qs, e :: es => QAt F H q e ∧ QsAt F H qs es
  | _, _ => False
theorem QsAt.keep {F : List Addr} {H H' : Hp} (f : FrD F H H') : ∀ {qs : List Quad} {es : List Env3}, QsAt F H qs es → QsAt F H' qs es
  | [], [], _ => trivial
  | _ :: _, _ :: _, h => ⟨h.1.keep f, QsAt.keep f h.2⟩
  | [], _ :: _, h => h.elim
  | _ :: _, [], h => h.elim
theorem QsAt.snoc {F : List Addr} {H : Hp} {q : Quad} {e : Env3} (hq : QAt F H q e) : ∀ {qs : List Quad} {es : List Env3}, QsAt F H qs es → QsAt F H (qs ++ [q]) (es ++ [e])
  | [], [], _ => ⟨hq, trivial⟩
  | _ :: _, _ :: _, h => ⟨h.1, QsAt.snoc hq h.2⟩
  | [], _ :: _, h => h.elim
  | _ :: _, [], h => h.elim
theorem QsAt.len {F : List Addr} {H : Hp} : ∀ {qs : List Quad} {es : List Env3}, QsAt F H qs es → qs.length = es.length
  | [], [], _ => rfl
  | _ :: _, _ :: _, h => congrArg (· + 1) (QsAt.len h.2)
  | [], _ :: _, h => h.elim
  | _ :: _, [], h => h.elim
theorem QsAt.get {F : List Addr} {H : Hp} : ∀ {qs : List Quad} {es : List Env3} {i : Nat} {q : Quad}, QsAt F H qs es → qs[i]? = some q → ∃ e, es[i]? = some e ∧ QAt F H q e
  | _ :: _, _ :: _, 0, _, h, e => by cases e; exact ⟨_, rfl, h.1⟩
  | _ :: qs, _ :: es, i + 1, q, h, e => by
    obtain ⟨x, h1, h2⟩ := QsAt.get (qs := qs) (es := es) (i := i) (q := q) h.2 (by simpa using e)
    exact ⟨x, by simpa using h1, h2⟩
  | [], _, _, _, _, e => by simp at e
  | _ :: _, [], _, _, h, _ => h.elim
theorem QAt.sub {F G : List Addr} {H : Hp} {q : Quad} {e : Env3} (o : QAt F H q e) (h : ∀ x ∈ G, x ∈ F) : QAt G H q e := ⟨o.ok, o.o0.sub h, o.o1.sub h, o.o2.sub h, o.o3.sub h⟩
theorem QsAt.sub {F G : List Addr} {H : Hp} (f : ∀ x ∈ G, x ∈ F) : ∀ {qs : List Quad} {es : List Env3}, QsAt F H qs es → QsAt G H qs es
  | [], [], _ => trivial
  | _ :: _, _ :: _, h => ⟨h.1.sub f, QsAt.sub f h.2⟩
  | [], _ :: _, h => h.elim
  | _ :: _, [], h => h.elim
theorem QAt.more {F : List Addr} {H : Hp} {q : Quad} {e : Env3} {x : Addr} (o : QAt F H q e) (n : H x = none) : QAt (x :: F) H q e := ⟨o.ok, o.o0.more n, o.o1.more n, o.o2.more n, o.o3.more n⟩
theorem QsAt.more {F : List Addr} {H : Hp} {x : Addr} (n : H x = none) : ∀ {qs : List Quad} {es : List Env3}, QsAt F H qs es → QsAt (x :: F) H qs es
  | [], [], _ => trivial
  | _ :: _, _ :: _, h => ⟨h.1.more n, QsAt.more n h.2⟩
  | [], _ :: _, h => h.elim
  | _ :: _, [], h => h.elim
/-- the values of the terms T over the environments es -/
def VAt (F : List Addr) (H : Hp) (vd : Addr) (es : List Env3) (ns : List Nd) (T : List Nat) (N : Nat) : Prop := ∃ kvs : List (Key × V), H vd = some (.dK kvs) ∧ kvs.length ≤ N ∧ ∀ x ∈ T, x < ns.length ∧ ∃ a, valV kvs (kI (x : Int)) = some (.ref a) ∧ Own F H a (es.map fun e => V.int (val e ns x))
theorem VAt.keep {F : List Addr} {H H' : Hp} {vd : Addr} {es : List Env3} {ns : List Nd} {T : List Nat} {N : Nat} (v : VAt F H vd es ns T N) (f : FrD F H H') (d : ∀ kvs, H vd = some (.dK kvs) → H' vd = some (.dK kvs)) : VAt F H' vd es ns T N := by
  obtain ⟨kvs, h1, h2, h3⟩ := v
  exact ⟨kvs, d _ h1, h2, fun x hx => ⟨(h3 x hx).1, by obtain ⟨a, e, o⟩ := (h3 x hx).2; exact ⟨a, e, o.keep f⟩⟩⟩
theorem VAt.pre {F : List Addr} {H : Hp} {vd : Addr} {es : List Env3} {ns ms : List Nd} {T : List Nat} {N : Nat} (v : VAt F H vd es ns T N) (h : ns <+: ms) : VAt F H vd es ms T N := by
  obtain ⟨kvs, h1, h2, h3⟩ := v
  refine ⟨kvs, h1, h2, fun x hx => ?_⟩
  obtain ⟨l, a, e, o⟩ := h3 x hx
  refine ⟨Nat.lt_of_lt_of_le l h.length_le, a, e, ?_⟩
  rw [List.map_congr_left fun e _ => by rw [val_pre e h l]]
  exact o
theorem VAt.more {F : List Addr} {H : Hp} {vd x : Addr} {es : List Env3} {ns : List Nd} {T : List Nat} {N : Nat} (v : VAt F H vd es ns T N) (n : H x = none) : VAt (x :: F) H vd es ns T N := by
  obtain ⟨kvs, h1, h2, h3⟩ := v
  exact ⟨kvs, h1, h2, fun y hy => ⟨(h3 y hy).1, by obtain ⟨a, e, o⟩ := (h3 y hy).2; exact ⟨a, e, o.more n⟩⟩⟩
def ops15 : List Str := ["add", "sub", "mul", "and", "or", "xor", "shl", "shr", "sar", "slt", "sltu", "divu", "remu", "add", "xor"]
theorem ops15_ok {o : Str} (h : o ∈ ops15) : IsOp o := by
  have sub : ∀ o ∈ ops15, o ∈ tab13.map (·.1) := by decide
  obtain ⟨⟨o', g⟩, h1, h2⟩ := List.mem_map.mp (sub o h)
  exact ⟨g, by rw [← h2]; exact h1⟩
theorem ops15_in {o : Str} (h : IsOp o) : o ∈ ops15 := by
  obtain ⟨g, hg⟩ := h
  simp only [tab13, List.mem_cons, Prod.mk.injEq, List.not_mem_nil, or_false] at hg
  rcases hg with ⟨rfl, _⟩ | ⟨rfl, _⟩ | ⟨rfl, _⟩ | ⟨rfl, _⟩ | ⟨rfl, _⟩ | ⟨rfl, _⟩ | ⟨rfl, _⟩ | ⟨rfl, _⟩ | ⟨rfl, _⟩ | ⟨rfl, _⟩ | ⟨rfl, _⟩ | ⟨rfl, _⟩ | ⟨rfl, _⟩ <;> decide
theorem putK_len {κ : Type} [DecidableEq κ] (kvs : List (κ × V)) (k : κ) (v : V) : (putK kvs k v).length ≤ kvs.length + 1 := by
  unfold putK
  split
  · rw [List.length_map]; omega
  · rw [List.length_append, List.length_singleton]
    exact Nat.le_refl _
theorem VAt.put {F : List Addr} {H : Hp} {vd a : Addr} {es : List Env3} {ns : List Nd} {T : List Nat} {N x : Nat} {kvs : List (Key × V)} (h1 : H vd = some (.dK kvs)) (h2 : kvs.length ≤ N) (h3 : ∀ x ∈ T, x < ns.length ∧ ∃ a, valV kvs (kI (x : Int)) = some (.ref a) ∧ Own F H a (es.map fun e => V.int (val e ns x)))
    (lx : x < ns.length) (o : Own F H a (es.map fun e => V.int (val e ns x))) : VAt F (upd H vd (.dK (putK kvs (kI (x : Int)) (.ref a)))) vd es ns (T ++ [x]) (N + 1) := by
  have nv : ∀ {b : Addr} {xs : List V}, H b = some (.lst xs) → b ≠ vd := fun e => ne_of e h1 (by intro z; cases z)
  have ok : ∀ {b : Addr} {xs : List V}, Own F H b xs → Own F (upd H vd (.dK (putK kvs (kI (x : Int)) (.ref a)))) b xs := fun o => ⟨o.nf, by rw [upd_ne (nv o.at_)]; exact o.at_⟩
  refine ⟨_, upd_same, Nat.le_trans (putK_len _ _ _) (by omega), fun y hy => ?_⟩
  by_cases e : y = x
  · subst e
    exact ⟨lx, a, by rw [valV_put, if_pos rfl], ok o⟩
  · rcases List.mem_append.mp hy with z | z
    · obtain ⟨l, b, eb, ob⟩ := h3 y z
      exact ⟨l, b, by rw [valV_put, if_neg (fun z => e (kI_inj.mp z))]; exact eb, ok ob⟩
    · exact absurd (List.mem_singleton.mp z) e
section
variable {P : Program} {w : World} {K : PySem.W.Frag} {mg : Str → Option Value} {base : Heap} {C_Pool : Addr}
theorem ok_law (b_len : mg "len" = none) (b_range : mg "range" = none) (b_list : mg "list" = none) (c_law_draw : Cd P w K mg base 1 "_law_draw" (spDraw K)) (c_law_take : Cd P w K mg base 1 "_law_take" spTake) (c_law_word : Cd P w K mg base 2 "_law_word" spWord) (c_law_part : Cd P w K mg base 2 "_law_part" spPart) (c_law_lists : Cd P w K mg base 3 "_law_lists" spLists) (c_law_leaf_value : Cd P w K mg base 1 "_law_leaf_value" spLeafV) (c_law_compute : Cd P w K mg base 2 "_law_compute" spCompL) (c_law_sum_right : Cd P w K mg base 6 "_law_sum_right" (spSumRight P w C_Pool)) (T_Pool : Ob K C_Pool poN) (k_Pool : Mkr P w K mg base 1 "Pool" C_Pool (spInitP P w C_Pool)) (m_Pool_term : Md P w K mg base 1 C_Pool "term" (spTerm P w C_Pool)) (m_Pool_word : Md P w K mg base 2 C_Pool "word" (spWordP P w C_Pool)) (m_Pool_node : Md P w K mg base 1 C_Pool "node" (spNode P w C_Pool)) (m_Pool_normal : Md P w K mg base 5 C_Pool "normal" (spNormal P w C_Pool)) (m_Pool_value_of : Md P w K mg base 4 C_Pool "value_of" (spValueOf P w C_Pool))
    {f : Addr} {fd : FuncData} (F : Fun K "law" "law" s_law f fd) : RunG P w K mg base f fd "script" (spLaw K) := by
  refine runG_of (k := 12) F sc_law ⟨rfl, by decide, by decide⟩ (fun cdv s H vs Q hr h => ?_)
  obtain ⟨a, ns, rfl, hS, hlen, q⟩ := h
  have hu := hu_of hr
  refine ⟨_, (pss_cons (ps_set (i := 1) sc_law.nd rfl (.inr rfl) (pe_cd c_law_draw hr (by first | decide | omega) (by rfl) (pa_cons (pv 0) pa_nil)))
      (pss_cons (ps_set (i := 2) sc_law.nd rfl (.inr rfl) (pe_mkr0 k_Pool hr (by first | decide | omega) (by rfl)))
      (pss_cons (ps_set (i := 3) sc_law.nd rfl (.inl rfl) (pe_lst (pa_cons pe_str (pa_cons pe_str (pa_cons pe_str (pa_cons pe_str (pa_cons pe_str (pa_cons pe_str (pa_cons pe_str (pa_cons pe_str (pa_cons pe_str (pa_cons pe_str (pa_cons pe_str (pa_cons pe_str (pa_cons pe_str (pa_cons pe_str (pa_cons pe_str pa_nil)))))))))))))))))
      (pss_cons (ps_setLc (i := 4) (own := [("k", 10)]) rfl sc_law.nd rfl rfl (sw_true rfl rfl rfl (by decide +kernel)) (pi_range1 (by rfl) b_range (pa_cons pe_int pa_nil)) (blkOk_by (own := [("k", 10)]) (N := ["script", "draw", "pool", "ops", "rows", "nodes", "leaves", "plain", "words", "values", "k", "terms", "op", "s", "t", "found", "due", "j", "node", "w", "row"]) (sc := (defScope s_law)) (by decide +kernel)) (fun _ _ _ _ _ => (pg_name (i := 10) sc_law.nd rfl (by first | exact Or.inl rfl | exact Or.inr rfl))) (fun _ _ _ _ _ => pts_nil) (fun _ _ _ _ _ => (pe_cd c_law_lists hr (by first | decide | omega) (by rfl) (pa_cons (pv 1) pa_nil))))
      (pss_cons (ps_set (i := 5) sc_law.nd rfl (.inr rfl) (pe_lst (pa_cons (pe_tup (pa_cons pe_str (pa_cons pe_int pa_nil))) (pa_cons (pe_tup (pa_cons pe_str (pa_cons pe_int pa_nil))) (pa_cons (pe_tup (pa_cons pe_str (pa_cons pe_int pa_nil))) (pa_cons (pe_tup (pa_cons pe_str (pa_cons pe_int pa_nil))) (pa_cons (pe_tup (pa_cons pe_str (pa_cons pe_int pa_nil))) (pa_cons (pe_tup (pa_cons pe_str (pa_cons pe_int pa_nil))) pa_nil))))))))
      (pss_cons (ps_setLc (i := 6) (own := [("node", 18)]) rfl sc_law.nd rfl rfl (sw_true rfl rfl rfl (by decide +kernel)) (pi_list (pv 5)) (blkOk_by (own := [("node", 18)]) (N := ["script", "draw", "pool", "ops", "rows", "nodes", "leaves", "plain", "words", "values", "k", "terms", "op", "s", "t", "found", "due", "j", "node", "w", "row"]) (sc := (defScope s_law)) (by decide +kernel)) (fun _ _ _ _ _ => (pg_name (i := 18) sc_law.nd rfl (.inl rfl))) (fun _ _ _ _ _ => pts_nil) (fun _ _ _ _ _ => (pe_md T_Pool.cl m_Pool_term hr (by first | decide | omega) (pv 2) (pa_cons (pv 18) pa_nil))))
      (pss_cons (ps_set (i := 7) sc_law.nd rfl (.inr rfl) (pe_lst (pa_cons pe_int (pa_cons pe_int (pa_cons pe_int (pa_cons pe_int (pa_cons pe_int (pa_cons pe_int (pa_cons (pe_cd c_law_word hr (by first | decide | omega) (by rfl) (pa_cons (pv 1) pa_nil)) (pa_cons (pe_cd c_law_word hr (by first | decide | omega) (by rfl) (pa_cons (pv 1) pa_nil)) pa_nil))))))))))
      (pss_cons (ps_setLc (i := 8) (own := [("w", 19)]) rfl sc_law.nd rfl rfl (sw_true rfl rfl rfl (by decide +kernel)) (pi_list (pv 7)) (blkOk_by (own := [("w", 19)]) (N := ["script", "draw", "pool", "ops", "rows", "nodes", "leaves", "plain", "words", "values", "k", "terms", "op", "s", "t", "found", "due", "j", "node", "w", "row"]) (sc := (defScope s_law)) (by decide +kernel)) (fun _ _ _ _ _ => (pg_name (i := 19) sc_law.nd rfl (.inl rfl))) (fun _ _ _ _ _ => pts_nil) (fun _ _ _ _ _ => (pe_md T_Pool.cl m_Pool_word hr (by first | decide | omega) (pv 2) (pa_cons (pv 19) pa_nil))))
      (pss_cons (ps_set (i := 9) sc_law.nd rfl (.inr rfl) pe_dnewK)
      (pss_cons (ps_for PassesOwn.never rfl (pi_range1 (by rfl) b_range (pa_cons (pe_callB call_lenQ (by rfl) b_len PySem.boot_len (pa_cons (pv 5) pa_nil)) pa_nil)) (pg_name (i := 10) sc_law.nd rfl (.inr rfl))
      (pss_one (ps_dput hu (pv 9) (pe_ix ix_list (pv 6) (pv 10) (fun _ _ => rfl)) (pe_lc (own := [("row", 20)]) rfl sc_law.nd (pi_list (pv 4)) (blkOk_by (own := [("row", 20)]) (N := ["script", "draw", "pool", "ops", "rows", "nodes", "leaves", "plain", "words", "values", "k", "terms", "op", "s", "t", "found", "due", "j", "node", "w", "row"]) (sc := (defScope s_law)) (by decide +kernel)) (fun _ _ _ _ _ => (pg_name (i := 20) sc_law.nd rfl (.inl rfl))) (fun _ _ _ _ _ => pts_nil) (fun _ _ _ _ _ => (pe_cd c_law_leaf_value hr (by first | decide | omega) (by rfl) (pa_cons (pe_ix (ix_listK (K' := K) (by rfl)) (pv 5) (pv 10) (fun _ _ => rfl)) (pa_cons (pv 20) pa_nil))))) rfl)))
      (pss_cons (ps_for PassesOwn.never rfl (pi_range1 (by rfl) b_range (pa_cons (pe_callB call_lenQ (by rfl) b_len PySem.boot_len (pa_cons (pv 8) pa_nil)) pa_nil)) (pg_name (i := 10) sc_law.nd rfl (.inr rfl))
      (pss_cons (ps_dput hu (pv 9) (pe_ix ix_list (pv 8) (pv 10) (fun _ _ => rfl)) (pe_lc (own := [("row", 20)]) rfl sc_law.nd (pi_list (pv 4)) (blkOk_by (own := [("row", 20)]) (N := ["script", "draw", "pool", "ops", "rows", "nodes", "leaves", "plain", "words", "values", "k", "terms", "op", "s", "t", "found", "due", "j", "node", "w", "row"]) (sc := (defScope s_law)) (by decide +kernel)) (fun _ _ _ _ _ => (pg_name (i := 20) sc_law.nd rfl (.inl rfl))) (fun _ _ _ _ _ => pts_nil) (fun _ _ _ _ _ => (pe_ix (ix_listK (K' := K) (by rfl)) (pv 7) (pv 10) (fun _ _ => rfl)))) rfl)
      (pss_one (ps_if (PW.pt (pw_or (pt_cmpR (op_neD hr.units) (pe_md T_Pool.cl m_Pool_node hr (by first | decide | omega) (pv 2) (pa_cons (pe_ix ix_list (pv 8) (pv 10) (fun _ _ => rfl)) pa_nil)) (pe_tup (pa_cons pe_str (pa_cons (pe_ix ix_list (pv 7) (pv 10) (fun _ _ => rfl)) pa_nil))) (nomark _)) (pw_or1 (pt_cmpR op_ne (pe_md T_Pool.cl m_Pool_word hr (by first | decide | omega) (pv 2) (pa_cons (pe_ix ix_list (pv 7) (pv 10) (fun _ _ => rfl)) pa_nil)) (pe_ix ix_list (pv 8) (pv 10) (fun _ _ => rfl)) (nomark _))))) (pss_one (ps_ret pe_bl)) pss_nil))))
      (pss_cons (ps_set (i := 11) sc_law.nd rfl (.inl rfl) (pe_callTy call_listQ (by rfl) b_list (by decide +kernel) (pa_cons (pv 6) pa_nil)))
      (pss_cons (ps_for PassesOwn.never rfl (pi_range1 (by rfl) b_range (pa_cons (pe_cd c_law_take hr (by first | decide | omega) (by rfl) (pa_cons (pv 1) (pa_cons pe_int pa_nil))) pa_nil)) (pg_name (i := 10) sc_law.nd rfl (.inr rfl))
      (pss_cons (ps_set (i := 12) sc_law.nd rfl (.inr rfl) (pe_ix ix_list (pv 3) (pe_cd c_law_take hr (by first | decide | omega) (by rfl) (pa_cons (pv 1) (pa_cons pe_int pa_nil))) (fun _ _ => rfl)))
      (pss_cons (ps_set (i := 13) sc_law.nd rfl (.inr rfl) (pe_cd c_law_part hr (by first | decide | omega) (by rfl) (pa_cons (pv 1) (pa_cons (pv 11) (pa_cons (pv 8) pa_nil)))))
      (pss_cons (ps_set (i := 14) sc_law.nd rfl (.inr rfl) (pe_cd c_law_part hr (by first | decide | omega) (by rfl) (pa_cons (pv 1) (pa_cons (pv 11) (pa_cons (pv 8) pa_nil)))))
      (pss_cons (ps_set (i := 15) sc_law.nd rfl (.inl rfl) (pe_md T_Pool.cl m_Pool_normal hr (by first | decide | omega) (pv 2) (pa_cons (pv 12) (pa_cons (pv 13) (pa_cons (pv 14) pa_nil)))))
      (pss_cons (ps_setLc (i := 16) (own := [("j", 17)]) rfl sc_law.nd rfl rfl (sw_true rfl rfl rfl (by decide +kernel)) (pi_range1 (by rfl) b_range (pa_cons pe_int pa_nil)) (blkOk_by (own := [("j", 17)]) (N := ["script", "draw", "pool", "ops", "rows", "nodes", "leaves", "plain", "words", "values", "k", "terms", "op", "s", "t", "found", "due", "j", "node", "w", "row"]) (sc := (defScope s_law)) (by decide +kernel)) (fun _ _ _ _ _ => (pg_name (i := 17) sc_law.nd rfl (.inl rfl))) (fun _ _ _ _ _ => pts_nil) (fun _ _ _ _ _ => (pe_cd c_law_compute hr (by first | decide | omega) (by rfl) (pa_cons (pv 12) (pa_cons (pe_ix (ix_listK (K' := K) (by rfl)) (pe_dget hu (pv 9) (pv 13) (fun _ _ => rfl)) (pv 17) (fun _ _ => rfl)) (pa_cons (pe_ix (ix_listK (K' := K) (by rfl)) (pe_dget hu (pv 9) (pv 14) (fun _ _ => rfl)) (pv 17) (fun _ _ => rfl)) pa_nil))))))
      (pss_cons (ps_if (PW.pt (pw_or (pt_cmpR op_ne (pv 15) (pe_md T_Pool.cl m_Pool_normal hr (by first | decide | omega) (pv 2) (pa_cons (pv 12) (pa_cons (pv 13) (pa_cons (pv 14) pa_nil)))) (nomark _)) (pw_or1 (pt_cmpR op_ne (pe_md T_Pool.cl m_Pool_term hr (by first | decide | omega) (pv 2) (pa_cons (pe_md T_Pool.cl m_Pool_node hr (by first | decide | omega) (pv 2) (pa_cons (pv 15) pa_nil)) pa_nil)) (pv 15) (nomark _))))) (pss_one (ps_ret pe_bl)) pss_nil)
      (pss_cons (ps_for PassesOwn.never rfl (pi_range1 (by rfl) b_range (pa_cons pe_int pa_nil)) (pg_name (i := 17) sc_law.nd rfl (.inl rfl))
      (pss_one (ps_if (pt_cmpR op_ne (pe_md T_Pool.cl m_Pool_value_of hr (by first | decide | omega) (pv 2) (pa_cons (pv 15) (pa_cons (pe_callTy call_listQ (by rfl) b_list (by decide +kernel) (pa_cons (pe_ix ix_list (pe_ix ix_list (pv 4) (pv 17) (fun _ _ => rfl)) pe_int (fun _ _ => rfl)) pa_nil)) (pa_cons (pe_callTy call_listQ (by rfl) b_list (by decide +kernel) (pa_cons (pe_ix ix_list (pe_ix ix_list (pv 4) (pv 17) (fun _ _ => rfl)) pe_int (fun _ _ => rfl)) pa_nil)) (pa_cons (pe_callTy call_listQ (by rfl) b_list (by decide +kernel) (pa_cons (pe_ix ix_list (pe_ix ix_list (pv 4) (pv 17) (fun _ _ => rfl)) pe_int (fun _ _ => rfl)) pa_nil)) pa_nil))))) (pe_ix ix_list (pv 16) (pv 17) (fun _ _ => rfl)) (nomark _)) (pss_one (ps_ret pe_bl)) pss_nil)))
      (pss_cons (ps_dput hu (pv 9) (pv 15) (pv 16) rfl)
      (pss_cons (ps_expr (pe_bm PySem.F.plainAttrs_list PySem.F.slot_list_append PySem.F.type_list_append mt_append (pv 11) (pa_cons (pv 15) pa_nil)))
      (pss_cons (ps_set (i := 18) sc_law.nd rfl (.inl rfl) (pe_md T_Pool.cl m_Pool_node hr (by first | decide | omega) (pv 2) (pa_cons (pv 15) pa_nil)))
      (pss_one (ps_if (PW.pt (pw_and (pt_cmpR op_in_seq (pe_ix ix_tup (pv 18) pe_int (fun _ _ => rfl)) (pv 3) rfl) (pw_and1 (PW.pt (pw_or (pt_cmpR op_ge (pe_ix ix_tup (pv 18) pe_int (fun _ _ => rfl)) (pv 15) (nomark _)) (pw_or1 (pt_cmpR op_ge (pe_ix ix_tup (pv 18) pe_int (fun _ _ => rfl)) (pv 15) (nomark _)))))))) (pss_one (ps_ret pe_bl)) pss_nil)))))))))))))
      (pss_one (ps_ret (pe_cd c_law_sum_right hr (by first | decide | omega) (by rfl) (pa_cons (pv 1) (pa_cons (pv 2) (pa_cons (pv 6) pa_nil))))))))))))))))))), ?_⟩
  (with_reducible refine w_seq ?_)
  (with_reducible refine w_asg ?_)
  (with_reducible refine w_call ?_)
  (with_reducible refine w_cons ?_)
  ((with_reducible refine' w_var ?hv ?_); (case hv => exact rfl))
  (with_reducible refine w_nil ?_)
  refine ⟨a, ns, rfl, hS, hlen, fun dr cc H1 _ _ _ hd1 => ?_⟩
  (with_reducible refine w_name ?_)
  (with_reducible refine w_seq ?_)
  (with_reducible refine w_asg ?_)
  (with_reducible refine w_mkr ?_)
  (with_reducible refine w_nil ?_)
  refine fun p dx np ndx nxd => ⟨p, dx, rfl, upd_same, fun l d H2 hP b2 nl nd => ⟨rfl, ?_⟩⟩
  have s2 : Same H1 H2 := fun b o h => b2 _ _ (ne_of_none h np) (by rw [upd_ne (ne_of_none h np), upd_ne (ne_of_none h ndx)]; exact h)
  have nl1 : H1 l = none := by
    cases e : H1 l with
    | none => rfl
    | some o => rw [upd_ne (ne_of_none e np), upd_ne (ne_of_none e ndx), e] at nl; cases nl
  obtain ⟨⟨xdr, hdr⟩, xcc, hcc⟩ : (∃ xs, H1 dr = some (.lst xs)) ∧ ∃ xs, H1 cc = some (.lst xs) := by
    obtain ⟨cs, i, cur, seed, h1, h2, _⟩ := hd1
    exact ⟨⟨_, h1⟩, _, h2⟩
  have S2 : LSt P w C_Pool dr cc p l d H2 [] := ⟨hd1.same s2, hP, ne_of_none hdr nl1, ne_of_none hcc nl1⟩
  (with_reducible refine w_name ?_)
  (with_reducible refine w_seq ?_)
  (with_reducible refine w_asg ?_)
  (with_reducible refine w_lst ?_)
  (with_reducible refine w_cons ?_)
  (with_reducible refine w_c ?_)
  (with_reducible refine w_cons ?_)
  (with_reducible refine w_c ?_)
  (with_reducible refine w_cons ?_)
  (with_reducible refine w_c ?_)
  (with_reducible refine w_cons ?_)
  (with_reducible refine w_c ?_)
  (with_reducible refine w_cons ?_)
  (with_reducible refine w_c ?_)
  (with_reducible refine w_cons ?_)
  (with_reducible refine w_c ?_)
  (with_reducible refine w_cons ?_)
  (with_reducible refine w_c ?_)
  (with_reducible refine w_cons ?_)
  (with_reducible refine w_c ?_)
  (with_reducible refine w_cons ?_)
  (with_reducible refine w_c ?_)
  (with_reducible refine w_cons ?_)
  (with_reducible refine w_c ?_)
  (with_reducible refine w_cons ?_)
  (with_reducible refine w_c ?_)
  (with_reducible refine w_cons ?_)
  (with_reducible refine w_c ?_)
  (with_reducible refine w_cons ?_)
  (with_reducible refine w_c ?_)
  (with_reducible refine w_cons ?_)
  (with_reducible refine w_c ?_)
  (with_reducible refine w_cons ?_)
  (with_reducible refine w_c ?_)
  (with_reducible refine w_nil ?_)
  refine w_kLst (by show 15 ≤ sizeLine; decide) fun opl H3 nop s3 hops => ?_
  have S3 := S2.same s3
  (with_reducible refine w_name ?_)
  (with_reducible refine w_seq ?_)
  (with_reducible refine w_asg ?_)
  (with_reducible refine w_lc ?_)
  (with_reducible refine w_rng1 ?_)
  (with_reducible refine w_cons ?_)
  (with_reducible refine w_c ?_)
  (with_reducible refine w_nil ?_)
  refine w_lcR 4 (fun D i H' => ∃ (qs : List Quad) (es : List Env3), qs.length = i ∧ QsAt [D, l, dr] H' qs es ∧ H' D = some (.lst (qs.map fun q => V.ref q.1)) ∧ LSt P w C_Pool dr cc p l d H' [] ∧ H3 D = none ∧ But dr H3 H') rfl (by decide) (fun D nD => ⟨[], [], rfl, trivial, upd_same, S3.same (Same.new nD), nD, fun b o hb h => Same.new nD _ _ h⟩) (fun D i H' hi h => ?_) (fun rl H4 nrl h => ?_)
  · obtain ⟨qs, es, lq, hQ, hD, S', nD, b3⟩ := h
    (with_reducible refine w_name ?_)
    refine ⟨rfl, ?_⟩
    (with_reducible refine w_yes ?_)
    (with_reducible refine w_itT ?_)
    (with_reducible refine w_call ?_)
    (with_reducible refine w_cons ?_)
    ((with_reducible refine' w_var ?hv ?_); (case hv => exact rfl))
    (with_reducible refine w_nil ?_)
    refine ⟨dr, cc, rfl, S'.dw, fun e r r1 r2 r3 H5 eo hr hE hd5 hn b5 => ?_⟩
    have S5 := S'.but hd5 b5
    obtain ⟨⟨xa, ha⟩, _⟩ := S'.hdl
    obtain ⟨al, _, hal, _⟩ := S'.po.li
    obtain ⟨⟨xa3, ha3⟩, xc3, hc3⟩ := S3.hdl
    obtain ⟨al3, _, hal3, _⟩ := S3.po.li
    have nDd : D ≠ dr := Ne.symm (ne_of_none ha3 nD)
    have nDl : D ≠ l := Ne.symm (ne_of_none hal3 nD)
    have nDc : D ≠ cc := Ne.symm (ne_of_none hc3 nD)
    have hD5 := b5 _ _ nDd hD
    refine ⟨_, hD5, by rw [List.length_map, lq, sizeLine_eq]; omega, qs ++ [(r, r1, r2, r3)], es ++ [e], by rw [List.length_append, lq]; rfl, ?_, by rw [upd_same, List.map_append]; rfl, ?_, nD, fun b o hb h => ?_⟩
    · have fD : FrD [D, l, dr] H' (upd H5 D (.lst (qs.map (fun q => V.ref q.1) ++ [V.ref r]))) := (FrD.of_but b5 (by simp)).trans (FrD.of_upd (by simp))
      have fu : FrD [D, l, dr] H5 (upd H5 D (.lst (qs.map (fun q => V.ref q.1) ++ [V.ref r]))) := FrD.of_upd (by simp)
      have nin : ∀ {b : Addr}, H' b = none → b ∉ [D, l, dr] := fun {b} n z => by
        simp only [List.mem_cons, List.not_mem_nil, or_false] at z
        rcases z with rfl | rfl | rfl
        · rw [hD] at n; cases n
        · rw [hal] at n; cases n
        · rw [ha] at n; cases n
      refine (hQ.keep fD).snoc ?_
      exact QAt.keep ⟨eo, ⟨nin hn.1, hr⟩, ⟨nin hn.2.1, hE.a1⟩, ⟨nin hn.2.2.1, hE.a2⟩, ⟨nin hn.2.2.2, hE.a3⟩⟩ fu
    · exact S5.butl (x := D) (fun b o hb h => by rw [upd_ne hb]; exact h) hD5 (Ne.symm nDd) (Ne.symm nDc) (Ne.symm nDl)
    · rw [upd_ne (ne_of_none h nD)]
      exact b5 _ _ hb (b3 _ _ hb h)
  · obtain ⟨qs, es, lq, hQ, hD, S4, nD, b3⟩ := h
    (with_reducible refine w_name ?_)
    (with_reducible refine w_seq ?_)
    (with_reducible refine w_asg ?_)
    (with_reducible refine w_lst ?_)
    (with_reducible refine w_cons ?_)
    (with_reducible refine w_tup ?_)
    (with_reducible refine w_cons ?_)
    (with_reducible refine w_c ?_)
    (with_reducible refine w_cons ?_)
    (with_reducible refine w_c ?_)
    (with_reducible refine w_nil ?_)
    refine w_kTup (by show 2 ≤ sizeLine; decide) fun nd0 Hn0 nn0 sn0 hn0 => ?_
    (with_reducible refine w_cons ?_)
    (with_reducible refine w_tup ?_)
    (with_reducible refine w_cons ?_)
    (with_reducible refine w_c ?_)
    (with_reducible refine w_cons ?_)
    (with_reducible refine w_c ?_)
    (with_reducible refine w_nil ?_)
    refine w_kTup (by show 2 ≤ sizeLine; decide) fun nd1 Hn1 nn1 sn1 hn1 => ?_
    (with_reducible refine w_cons ?_)
    (with_reducible refine w_tup ?_)
    (with_reducible refine w_cons ?_)
    (with_reducible refine w_c ?_)
    (with_reducible refine w_cons ?_)
    (with_reducible refine w_c ?_)
    (with_reducible refine w_nil ?_)
    refine w_kTup (by show 2 ≤ sizeLine; decide) fun nd2 Hn2 nn2 sn2 hn2 => ?_
    (with_reducible refine w_cons ?_)
    (with_reducible refine w_tup ?_)
    (with_reducible refine w_cons ?_)
    (with_reducible refine w_c ?_)
    (with_reducible refine w_cons ?_)
    (with_reducible refine w_c ?_)
    (with_reducible refine w_nil ?_)
    refine w_kTup (by show 2 ≤ sizeLine; decide) fun nd3 Hn3 nn3 sn3 hn3 => ?_
    (with_reducible refine w_cons ?_)
    (with_reducible refine w_tup ?_)
    (with_reducible refine w_cons ?_)
    (with_reducible refine w_c ?_)
    (with_reducible refine w_cons ?_)
    (with_reducible refine w_c ?_)
    (with_reducible refine w_nil ?_)
    refine w_kTup (by show 2 ≤ sizeLine; decide) fun nd4 Hn4 nn4 sn4 hn4 => ?_
    (with_reducible refine w_cons ?_)
    (with_reducible refine w_tup ?_)
    (with_reducible refine w_cons ?_)
    (with_reducible refine w_c ?_)
    (with_reducible refine w_cons ?_)
    (with_reducible refine w_c ?_)
    (with_reducible refine w_nil ?_)
    refine w_kTup (by show 2 ≤ sizeLine; decide) fun nd5 Hn5 nn5 sn5 hn5 => ?_
    (with_reducible refine w_nil ?_)
    refine w_kLst (by show 6 ≤ sizeLine; decide) fun ndl H5 nndl s5 hndl => ?_
    (with_reducible refine w_name ?_)
    (with_reducible refine w_seq ?_)
    (with_reducible refine w_asg ?_)
    (with_reducible refine w_lc ?_)
    (with_reducible refine w_iL ?_)
    ((with_reducible refine' w_var ?hv ?_); (case hv => exact rfl))
    have hnds : NdsAt H5 [nd0, nd1, nd2, nd3, nd4, nd5] := by
      have e5 := s5 _ _ hn5
      have e4 := s5 _ _ (sn5 _ _ hn4)
      have e3 := s5 _ _ (sn5 _ _ (sn4 _ _ hn3))
      have e2 := s5 _ _ (sn5 _ _ (sn4 _ _ (sn3 _ _ hn2)))
      have e1 := s5 _ _ (sn5 _ _ (sn4 _ _ (sn3 _ _ (sn2 _ _ hn1))))
      have e0 := s5 _ _ (sn5 _ _ (sn4 _ _ (sn3 _ _ (sn2 _ _ (sn1 _ _ hn0)))))
      refine ⟨rfl, fun j a x h1 h2 => ?_⟩
      match j, h1, h2 with
      | 0, h1, h2 => cases h1; cases h2; exact e0
      | 1, h1, h2 => cases h1; cases h2; exact e1
      | 2, h1, h2 => cases h1; cases h2; exact e2
      | 3, h1, h2 => cases h1; cases h2; exact e3
      | 4, h1, h2 => cases h1; cases h2; exact e4
      | 5, h1, h2 => cases h1; cases h2; exact e5
      | n + 6, h1, h2 => simp at h1
    have s45 : Same H4 H5 := (((((sn0.trans sn1).trans sn2).trans sn3).trans sn4).trans sn5).trans s5
    have S5 := S4.same s45
    have hndl5 : H5 ndl = some (.lst ([nd0, nd1, nd2, nd3, nd4, nd5].map V.ref)) := hndl
    have nndll : ndl ≠ l := by
      obtain ⟨al, _, hal, _⟩ := (S4.same (((((sn0.trans sn1).trans sn2).trans sn3).trans sn4).trans sn5)).po.li
      exact Ne.symm (ne_of_none hal nndl)
    generalize [nd0, nd1, nd2, nd3, nd4, nd5] = nds at hnds hndl5
    obtain ⟨al5, _, hal5, hd5', _⟩ := S5.po.li
    refine w_lcL (nds.map V.ref) (fun D i H' => ∃ (ms : List Nd) (ls : List Nat), ls.length = i ∧ LSt P w C_Pool dr cc p l d H' ms ∧ ms.length ≤ i ∧ (∀ (j : Nat) (x : Nd) (t : Nat), leafNds[j]? = some x → ls[j]? = some t → ms[t]? = some x) ∧ LstN H' D ls ∧ H5 D = none ∧ ∀ b o, b ≠ l → b ≠ d → b ≠ D → H5 b = some o → H' b = some o) (.of hndl5) (fun D nD => ⟨[], [], rfl, S5.same (Same.new nD), by simp, fun j x t _ e => by simp at e, upd_same, nD, fun b o _ _ _ h => Same.new nD _ _ h⟩) (fun D i H' _ h => ?_) (fun D i y H' hy h => ?_) (fun lvl H6 nlv h => ?_)
    · obtain ⟨ms, ls, _, _, _, _, _, nD, fr⟩ := h
      exact .of (fr _ _ nndll (ne_of hndl5 hd5' (by intro z; cases z)) (ne_of_none hndl5 nD) hndl5)
    · obtain ⟨ms, ls, lls, S', lms, hls, hD, nD, fr⟩ := h
      rw [List.getElem?_map] at hy
      obtain ⟨na, ena, rfl⟩ := Option.map_eq_some_iff.mp hy
      have li : i < 6 := by have := (List.getElem?_eq_some_iff.mp ena).1; rw [hnds.1] at this; exact this
      obtain ⟨x, ex⟩ : ∃ x, leafNds[i]? = some x := ⟨_, List.getElem?_eq_getElem (show i < leafNds.length from li)⟩
      obtain ⟨kk, nn, exk, lo⟩ := leafNds_ok (List.mem_of_getElem? ex)
      obtain ⟨⟨xdd, hdd⟩, xcd, hcd⟩ := S5.hdl
      have nDl : D ≠ l := Ne.symm (ne_of_none hal5 nD)
      have nDdd : D ≠ d := Ne.symm (ne_of_none hd5' nD)
      have nDr : dr ≠ D := ne_of_none hdd nD
      have nDc : cc ≠ D := ne_of_none hcd nD
      have tps : Tps H5 H' := fun b xs e => fr _ _ (ne_of e hal5 (by intro z; cases z)) (ne_of e hd5' (by intro z; cases z)) (ne_of_none e nD) e
      obtain ⟨dxx, hob⟩ := S'.po.ob
      (with_reducible refine w_name ?_)
      refine ⟨rfl, ?_⟩
      (with_reducible refine w_yes ?_)
      (with_reducible refine w_itT ?_)
      (with_reducible refine w_md ?_)
      ((with_reducible refine' w_var ?hv ?_); (case hv => exact rfl))
      refine w_kMd hob rfl ?_
      (with_reducible refine w_cons ?_)
      ((with_reducible refine' w_var ?hv ?_); (case hv => exact rfl))
      (with_reducible refine w_nil ?_)
      refine S'.term (x := x) (by omega) ((hnds.tps tps).2 i na x ena ex) (by rw [exk]; exact lo) fun H8 m8 r8 S8 f8 p8 l8 h8 => ?_
      skip
      have hD8 := f8 _ _ nDl nDdd hD
      refine ⟨_, hD8, by rw [List.length_map, lls, sizeLine_eq]; omega, m8, ls ++ [r8], by rw [List.length_append, lls]; rfl, S8.butl (x := D) (fun b o hb h => by rw [upd_ne hb]; exact h) hD8 nDr nDc (Ne.symm nDl), by omega, fun j x' t e1 e2 => ?_, by show upd _ _ _ D = _; rw [upd_same, List.map_append]; rfl, nD, fun b o h1 h2 h3 h => by rw [upd_ne h3]; exact f8 _ _ h1 h2 (fr _ _ h1 h2 h3 h)⟩
      by_cases lt : j < ls.length
      · rw [List.getElem?_append_left lt] at e2
        exact pre_get' p8 (hls j x' t e1 e2)
      · have hj : j < (ls ++ [r8]).length := (List.getElem?_eq_some_iff.mp e2).1
        rw [List.length_append, List.length_singleton] at hj
        have ej : j = ls.length := by omega
        rw [List.getElem?_append_right (by omega), ej, Nat.sub_self] at e2
        cases e2
        rw [ej, lls, ex] at e1
        cases e1
        exact h8
    · obtain ⟨ms, ls, lls, S6, lms, hls, hlv6, nD, fr6⟩ := h
      rw [List.length_map, hnds.1] at lms lls
      (with_reducible refine w_name ?_)
      (with_reducible refine w_seq ?_)
      (with_reducible refine w_asg ?_)
      (with_reducible refine w_lst ?_)
      (with_reducible refine w_cons ?_)
      (with_reducible refine w_c ?_)
      (with_reducible refine w_cons ?_)
      (with_reducible refine w_c ?_)
      (with_reducible refine w_cons ?_)
      (with_reducible refine w_c ?_)
      (with_reducible refine w_cons ?_)
      (with_reducible refine w_c ?_)
      (with_reducible refine w_cons ?_)
      (with_reducible refine w_c ?_)
      (with_reducible refine w_cons ?_)
      (with_reducible refine w_c ?_)
      (with_reducible refine w_cons ?_)
      (with_reducible refine w_call ?_)
      (with_reducible refine w_cons ?_)
      ((with_reducible refine' w_var ?hv ?_); (case hv => exact rfl))
      (with_reducible refine w_nil ?_)
      refine ⟨dr, cc, rfl, S6.dw, fun v1 H7 hv1 hd7 b7 => ?_⟩
      have S7 := S6.but hd7 b7
      (with_reducible refine w_cons ?_)
      (with_reducible refine w_call ?_)
      (with_reducible refine w_cons ?_)
      ((with_reducible refine' w_var ?hv ?_); (case hv => exact rfl))
      (with_reducible refine w_nil ?_)
      refine ⟨dr, cc, rfl, hd7, fun v2 H8 hv2 hd8 b8 => ?_⟩
      have S8 := S7.but hd8 b8
      (with_reducible refine w_nil ?_)
      refine w_kLst (by show 8 ≤ sizeLine; decide) fun pnl H9 npnl s9 hpnl => ?_
      have S9 := S8.same s9
      (with_reducible refine w_name ?_)
      (with_reducible refine w_seq ?_)
      (with_reducible refine w_asg ?_)
      (with_reducible refine w_lc ?_)
      (with_reducible refine w_iL ?_)
      ((with_reducible refine' w_var ?hv ?_); (case hv => exact rfl))
      obtain ⟨pl8, epl⟩ : ∃ x : List Int, x = [0, 1, 4294967295, 31, 32, 255, v1, v2] := ⟨_, rfl⟩
      have hpn : H9 pnl = some (.lst (pl8.map V.int)) := by rw [epl]; exact hpnl
      have lpl : pl8.length = 8 := by rw [epl]; rfl
      have wpl : ∀ v ∈ pl8, W32 v := fun v hv => by
        rw [epl] at hv
        simp only [List.mem_cons, List.not_mem_nil, or_false] at hv
        rcases hv with rfl | rfl | rfl | rfl | rfl | rfl | rfl | rfl
        · exact ⟨by decide, by decide⟩
        · exact ⟨by decide, by decide⟩
        · exact ⟨by decide, by decide⟩
        · exact ⟨by decide, by decide⟩
        · exact ⟨by decide, by decide⟩
        · exact ⟨by decide, by decide⟩
        · exact hv1
        · exact hv2
      obtain ⟨al9, _, hal9, hd9, _⟩ := S9.po.li
      have pnll : pnl ≠ l := by
        obtain ⟨al, _, hal, _⟩ := S8.po.li
        exact Ne.symm (ne_of_none hal npnl)
      obtain ⟨⟨xd9, hxd9⟩, xc9, hxc9⟩ := S9.hdl
      refine w_lcL (pl8.map V.int) (fun D i H' => ∃ (m2 : List Nd) (ws : List Nat), ws.length = i ∧ LSt P w C_Pool dr cc p l d H' m2 ∧ ms <+: m2 ∧ m2.length ≤ ms.length + i ∧ (∀ (j : Nat) (v : Int) (t : Nat), pl8[j]? = some v → ws[j]? = some t → m2[t]? = some (.word v)) ∧ LstN H' D ws ∧ H9 D = none ∧ ∀ b o, b ≠ l → b ≠ d → b ≠ D → H9 b = some o → H' b = some o) (.of hpn) (fun D nD => ⟨ms, [], rfl, S9.same (Same.new nD), List.prefix_refl _, by omega, fun j x t _ e => by simp at e, upd_same, nD, fun b o _ _ _ h => Same.new nD _ _ h⟩) (fun D i H' _ h => ?_) (fun D i y H' hy h => ?_) (fun wdl H10 nwd h => ?_)
      · obtain ⟨m2, ws, _, _, _, _, _, _, nD, fr⟩ := h
        exact .of (fr _ _ pnll (ne_of hpn hd9 (by intro z; cases z)) (ne_of_none hpn nD) hpn)
      · obtain ⟨m2, ws, lws, S', pm, lm, hws, hD, nD, fr⟩ := h
        rw [List.getElem?_map] at hy
        obtain ⟨v, ev, rfl⟩ := Option.map_eq_some_iff.mp hy
        have li : i < 8 := by have := (List.getElem?_eq_some_iff.mp ev).1; omega
        have nDl : D ≠ l := Ne.symm (ne_of_none hal9 nD)
        have nDdd : D ≠ d := Ne.symm (ne_of_none hd9 nD)
        have nDr : dr ≠ D := ne_of_none hxd9 nD
        have nDc : cc ≠ D := ne_of_none hxc9 nD
        obtain ⟨dxx, hob⟩ := S'.po.ob
        (with_reducible refine w_name ?_)
        refine ⟨rfl, ?_⟩
        (with_reducible refine w_yes ?_)
        (with_reducible refine w_itT ?_)
        (with_reducible refine w_md ?_)
        ((with_reducible refine' w_var ?hv ?_); (case hv => exact rfl))
        refine w_kMd hob rfl ?_
        (with_reducible refine w_cons ?_)
        ((with_reducible refine' w_var ?hv ?_); (case hv => exact rfl))
        (with_reducible refine w_nil ?_)
        refine S'.word (by omega) (wpl v (List.mem_of_getElem? ev)) fun Hb m8 r8 Sb fb pb lb ltb wb => ?_
        skip
        have hDb := fb _ _ nDl nDdd hD
        refine ⟨_, hDb, by rw [List.length_map, lws, sizeLine_eq]; omega, m8, ws ++ [r8], by rw [List.length_append, lws]; rfl, Sb.butl (x := D) (fun b o hb h => by rw [upd_ne hb]; exact h) hDb nDr nDc (Ne.symm nDl), pm.trans pb, by omega, fun j x' t e1 e2 => ?_, by show upd _ _ _ D = _; rw [upd_same, List.map_append]; rfl, nD, fun b o h1 h2 h3 h => by rw [upd_ne h3]; exact fb _ _ h1 h2 (fr _ _ h1 h2 h3 h)⟩
        by_cases lt : j < ws.length
        · rw [List.getElem?_append_left lt] at e2
          exact pre_get' pb (hws j x' t e1 e2)
        · have hj : j < (ws ++ [r8]).length := (List.getElem?_eq_some_iff.mp e2).1
          rw [List.length_append, List.length_singleton] at hj
          have ej : j = ws.length := by omega
          rw [List.getElem?_append_right (by omega), ej, Nat.sub_self] at e2
          cases e2
          rw [ej, lws, ev] at e1
          cases e1
          exact word_at wb
      · obtain ⟨m2, ws, lws, S10, pm2, lm2, hws, hwl10, nwd9, fr10⟩ := h
        (with_reducible refine w_name ?_)
        (with_reducible refine w_seq ?_)
        (with_reducible refine w_asg ?_)
        rw [List.length_map, lpl] at lm2 lws
        refine w_dnewK fun vd H11 nvd s11 hv11 => ?_
        have S11 := S10.same s11
        (with_reducible refine w_name ?_)
        (with_reducible refine w_seq ?_)
        (with_reducible refine w_for ?_)
        (with_reducible refine w_rng1 ?_)
        (with_reducible refine w_cons ?_)
        (with_reducible refine w_cb ?_)
        (with_reducible refine w_cons ?_)
        ((with_reducible refine' w_var ?hv ?_); (case hv => exact rfl))
        (with_reducible refine w_nil ?_)
        have f56 : FrD [l, dr] H5 H6 := fun b xs n e => fr6 _ _ (fun z => n (by rw [z]; simp)) (ne_of e hd5' (by intro z; cases z)) (ne_of_none e nD) e
        have f910 : FrD [l, dr] H9 H10 := fun b xs n e => fr10 _ _ (fun z => n (by rw [z]; simp)) (ne_of e hd9 (by intro z; cases z)) (ne_of_none e nwd9) e
        have f611 : FrD [l, dr] H6 H11 := (FrD.of_but b7 (by simp)).trans ((FrD.of_but b8 (by simp)).trans ((FrD.of_same s9).trans (f910.trans (FrD.of_same s11))))
        have f511 : FrD [l, dr] H5 H11 := f56.trans f611
        have f911 : FrD [l, dr] H9 H11 := f910.trans (FrD.of_same s11)
        obtain ⟨⟨xd6, hxd6⟩, _⟩ := S6.hdl
        obtain ⟨⟨xd7, hxd7⟩, _⟩ := S7.hdl
        have t56 : Tps H5 H6 := fun b xs e => fr6 _ _ (ne_of e hal5 (by intro z; cases z)) (ne_of e hd5' (by intro z; cases z)) (ne_of_none e nD) e
        have t910 : Tps H9 H10 := fun b xs e => fr10 _ _ (ne_of e hal9 (by intro z; cases z)) (ne_of e hd9 (by intro z; cases z)) (ne_of_none e nwd9) e
        have t511 : Tps H5 H11 := fun b xs e => s11 _ _ (t910 _ _ (s9 _ _ (b8 _ _ (ne_of (b7 _ _ (ne_of (t56 _ _ e) hxd6 (by intro z; cases z)) (t56 _ _ e)) hxd7 (by intro z; cases z)) (b7 _ _ (ne_of (t56 _ _ e) hxd6 (by intro z; cases z)) (t56 _ _ e)))))
        have ndld : ndl ∉ [l, dr] := fun z => by
          simp only [List.mem_cons, List.not_mem_nil, or_false] at z
          rcases z with z | z
          · exact nndll z
          · obtain ⟨⟨x4, h4⟩, _⟩ := (S4.same (((((sn0.trans sn1).trans sn2).trans sn3).trans sn4).trans sn5)).hdl
            exact Ne.symm (ne_of_none h4 nndl) z
        have hndl11 : H11 ndl = some (.lst (nds.map V.ref)) := f511 _ _ ndld hndl5
        have hnds11 := hnds.tps t511
        have hQ4 : QsAt [l, dr] H4 qs es := hQ.sub (by intro x hx; simp only [List.mem_cons, List.not_mem_nil, or_false] at hx ⊢; exact .inr hx)
        have hQ11 : QsAt [l, dr] H11 qs es := hQ4.keep ((FrD.of_same s45).trans f511)
        have rlf : rl ∉ [l, dr] := fun z => by
          obtain ⟨al3, _, hal3, _⟩ := S3.po.li
          obtain ⟨⟨x3, h3⟩, _⟩ := S3.hdl
          simp only [List.mem_cons, List.not_mem_nil, or_false] at z
          rcases z with z | z
          · exact Ne.symm (ne_of_none hal3 nrl) z
          · exact Ne.symm (ne_of_none h3 nrl) z
        have hrl11 : H11 rl = some (.lst (qs.map fun q => V.ref q.1)) := f511 _ _ rlf (s45 _ _ hD)
        have oplf : opl ∉ [l, dr] := fun z => by
          obtain ⟨al2, _, hal2, _⟩ := S2.po.li
          obtain ⟨⟨x2, h2⟩, _⟩ := S2.hdl
          simp only [List.mem_cons, List.not_mem_nil, or_false] at z
          rcases z with z | z
          · exact Ne.symm (ne_of_none hal2 nop) z
          · exact Ne.symm (ne_of_none h2 nop) z
        have hop11 : H11 opl = some (.lst (ops15.map V.str)) := f511 _ _ oplf (s45 _ _ (b3 _ _ (fun z => oplf (by simp [z])) hops))
        have lvlf : lvl ∉ [l, dr] := fun z => by
          obtain ⟨⟨x5, h5⟩, _⟩ := S5.hdl
          simp only [List.mem_cons, List.not_mem_nil, or_false] at z
          rcases z with z | z
          · exact Ne.symm (ne_of_none hal5 nD) z
          · exact Ne.symm (ne_of_none h5 nD) z
        have hlvl11 : LstN H11 lvl ls := f611 _ _ lvlf hlv6
        refine w_lenL hndl11 ?_
        (with_reducible refine w_nil ?_)
        rw [List.length_map, hnds.1]
        have lf10 : ∀ (j : Nat) (x : Nd) (t : Nat), leafNds[j]? = some x → ls[j]? = some t → m2[t]? = some x := fun j x t e1 e2 => pre_get' pm2 (hls j x t e1 e2)
        refine w_forR 6 (fun i σ' H' => ∃ a10, σ' = [some (.ref a), some (.ref dr), some (.ref p), some (.ref opl), some (.ref rl), some (.ref ndl), some (.ref lvl), some (.ref pnl), some (.ref wdl), some (.ref vd), a10, none, none, none, none, none, none, none, none, none, none] ∧ VAt [l, dr] H' vd es m2 (ls.take i) i ∧ ∀ b o, b ≠ vd → H11 b = some o → H' b = some o) rfl (by decide) ⟨none, rfl, ⟨[], hv11, by simp, by simp⟩, fun b o _ h => h⟩ (fun i σ' H' hi h => ?_) (fun σ' H' h => ?_)
        · obtain ⟨a10, rfl, hV, fr⟩ := h
          have fD : FrD [l, dr] H11 H' := fun b xs _ e => fr _ _ (ne_of e hv11 (by intro z; cases z)) e
          have tD : Tps H11 H' := fun b xs e => fr _ _ (ne_of e hv11 (by intro z; cases z)) e
          have hQi := hQ11.keep fD
          have hrl := fD _ _ rlf hrl11
          have hndl' := fD _ _ ndld hndl11
          have hlvl' := fD _ _ lvlf hlvl11
          obtain ⟨na, ena⟩ : ∃ x, nds[i]? = some x := ⟨_, List.getElem?_eq_getElem (by rw [hnds.1]; exact hi)⟩
          obtain ⟨x, ex⟩ : ∃ x, leafNds[i]? = some x := ⟨_, List.getElem?_eq_getElem (show i < leafNds.length from hi)⟩
          obtain ⟨t, et⟩ : ∃ x, ls[i]? = some x := ⟨_, List.getElem?_eq_getElem (by rw [lls]; exact hi)⟩
          obtain ⟨kk, nn, exk, lo⟩ := leafNds_ok (List.mem_of_getElem? ex)
          have hna := (hnds11.tps tD).2 i na x ena ex
          have m2t := lf10 i x t ex et
          have lqe := hQi.len
          (with_reducible refine w_name ?_)
          (with_reducible refine w_dput ?_)
          (with_reducible refine w_lc ?_)
          (with_reducible refine w_iL ?_)
          ((with_reducible refine' w_var ?hv ?_); (case hv => exact rfl))
          refine w_lcL (qs.map fun q => V.ref q.1) (fun D j H5 => Same H' H5 ∧ H' D = none ∧ H5 D = some (.lst ((es.take j).map fun e => V.int (ndVal e [] x)))) (.of hrl) (fun D nD => ⟨Same.new nD, nD, upd_same⟩) (fun D j H5 _ h => .of (h.1 _ _ hrl)) (fun D j y H5 hy h => ?_) (fun D H5 nD h => ?_)
          · obtain ⟨s5', nD, hD⟩ := h
            rw [List.getElem?_map] at hy
            obtain ⟨qd, eq, rfl⟩ := Option.map_eq_some_iff.mp hy
            obtain ⟨e, ee, hq⟩ := hQi.get eq
            have lj : j < 4 := by have := (List.getElem?_eq_some_iff.mp eq).1; omega
            (with_reducible refine w_name ?_)
            refine ⟨rfl, ?_⟩
            (with_reducible refine w_yes ?_)
            (with_reducible refine w_itT ?_)
            (with_reducible refine w_call ?_)
            (with_reducible refine w_cons ?_)
            (with_reducible refine w_op ?_)
            ((with_reducible refine' w_var ?hv ?_); (case hv => exact rfl))
            ((with_reducible refine' w_var ?hv ?_); (case hv => exact rfl))
            refine w_ixL (s5' _ _ hndl') (atI_nat (by rw [List.getElem?_map, ena]; rfl)) ?_
            (with_reducible refine w_cons ?_)
            ((with_reducible refine' w_var ?hv ?_); (case hv => exact rfl))
            (with_reducible refine w_nil ?_)
            refine ⟨na, qd.1, qd.2.1, qd.2.2.1, qd.2.2.2, x, e, rfl, hna.tps (Same.tps s5'), ⟨kk, nn, exk, lo⟩, s5' _ _ hq.o0.at_, ⟨s5' _ _ hq.o1.at_, s5' _ _ hq.o2.at_, s5' _ _ hq.o3.at_⟩, hq.ok, ?_⟩
            refine ⟨_, hD, by rw [List.length_map, List.length_take, sizeLine_eq]; omega, fun b o hb => ?_, nD, ?_⟩
            · rw [upd_ne (ne_of_none hb nD)]; exact s5' _ _ hb
            · rw [upd_same, take_more ee, List.map_append]; rfl
          · obtain ⟨s5', nD, hD⟩ := h
            rw [List.length_map, lqe, List.take_length] at hD
            ((with_reducible refine' w_var ?hv ?_); (case hv => exact rfl))
            (with_reducible refine w_op ?_)
            ((with_reducible refine' w_var ?hv ?_); (case hv => exact rfl))
            ((with_reducible refine' w_var ?hv ?_); (case hv => exact rfl))
            refine w_ixL (s5' _ _ hlvl') (atI_nat (by rw [List.getElem?_map, et]; rfl)) ?_
            skip
            obtain ⟨kvs, k1, k2, k3⟩ := hV
            obtain ⟨al11, _, hal11, _⟩ := S11.po.li
            obtain ⟨⟨x11, h11⟩, _⟩ := S11.hdl
            have nDf : D ∉ [l, dr] := fun z => by
              simp only [List.mem_cons, List.not_mem_nil, or_false] at z
              rcases z with rfl | rfl
              · rw [fr _ _ (ne_of hal11 hv11 (by intro z; cases z)) hal11] at nD; cases nD
              · rw [fr _ _ (ne_of h11 hv11 (by intro z; cases z)) h11] at nD; cases nD
            have eD : (es.map fun e => V.int (ndVal e [] x)) = es.map fun e => V.int (val e m2 t) := List.map_congr_left fun e _ => by
              rw [val_at e S10.po.wf m2t, exk]
              rfl
            have hp := VAt.put (F := [l, dr]) (s5' _ _ k1) k2 (fun y hy => ⟨(k3 y hy).1, by obtain ⟨b, e1, e2⟩ := (k3 y hy).2; exact ⟨b, e1, e2.keep (FrD.of_same s5')⟩⟩) (List.getElem?_eq_some_iff.mp m2t).1 ⟨nDf, by rw [hD, eD]⟩
            rw [← take_more et] at hp
            exact ⟨vd, _, rfl, DPut.k (k := kI (t : Int)) (s5' _ _ k1) (Nat.lt_of_le_of_lt k2 (by rw [sizeLine_eq]; omega)), _, rfl, hp, fun b o hb h => by rw [upd_ne hb]; exact s5' _ _ (fr _ _ hb h)⟩
        · obtain ⟨a10, rfl, hV, fr⟩ := h
          have fD : FrD [l, dr] H11 H' := fun b xs _ e => fr _ _ (ne_of e hv11 (by intro z; cases z)) e
          obtain ⟨⟨x11, h11⟩, xc11, hc11⟩ := S11.hdl
          have S' : LSt P w C_Pool dr cc p l d H' m2 := ⟨S11.dw.keep (fun o h => fr _ _ (ne_of h11 hv11 (by intro z; cases z)) h) (fun o h => fr _ _ (ne_of hc11 hv11 (by intro z; cases z)) h), S11.po.but fr hv11, S11.n1, S11.n2⟩
          have wdlf : wdl ∉ [l, dr] := fun z => by
            simp only [List.mem_cons, List.not_mem_nil, or_false] at z
            rcases z with z | z
            · exact Ne.symm (ne_of_none hal9 nwd9) z
            · exact Ne.symm (ne_of_none hxd9 nwd9) z
          have pnlf : pnl ∉ [l, dr] := fun z => by
            obtain ⟨⟨x8, h8⟩, _⟩ := S8.hdl
            simp only [List.mem_cons, List.not_mem_nil, or_false] at z
            rcases z with z | z
            · exact pnll z
            · exact Ne.symm (ne_of_none h8 npnl) z
          have hwdl11 : LstN H11 wdl ws := s11 _ _ hwl10
          have hpn11 : H11 pnl = some (.lst (pl8.map V.int)) := f911 _ _ pnlf hpn
          have hls6 : ls.take 6 = ls := by rw [← lls, List.take_length]
          rw [hls6] at hV
          have hwdl' := fD _ _ wdlf hwdl11
          (with_reducible refine w_seq ?_)
          (with_reducible refine w_for ?_)
          (with_reducible refine w_rng1 ?_)
          (with_reducible refine w_cons ?_)
          (with_reducible refine w_cb ?_)
          (with_reducible refine w_cons ?_)
          ((with_reducible refine' w_var ?hv ?_); (case hv => exact rfl))
          (with_reducible refine w_nil ?_)
          ((with_reducible refine' w_lenL ?hh ?_); (case hh => assumption))
          (with_reducible refine w_nil ?_)
          rw [List.length_map, lws]
          refine w_forR 8 (fun i σ' H'' => ∃ b10, σ' = [some (.ref a), some (.ref dr), some (.ref p), some (.ref opl), some (.ref rl), some (.ref ndl), some (.ref lvl), some (.ref pnl), some (.ref wdl), some (.ref vd), b10, none, none, none, none, none, none, none, none, none, none] ∧ LSt P w C_Pool dr cc p l d H'' m2 ∧ VAt [l, dr] H'' vd es m2 (ls ++ ws.take i) (6 + i) ∧ FrD [l, dr] H11 H'') rfl (by decide) ⟨a10, rfl, S', by rw [List.take_zero, List.append_nil]; exact hV, fD⟩ (fun i σ' Ha hi h => ?_) (fun σ' Ha h => ?_)
          · obtain ⟨b10, rfl, Sa, hVa, fa⟩ := h
            have hQi := hQ11.keep fa
            have lqe := hQi.len
            have hrl := fa _ _ rlf hrl11
            have hpna := fa _ _ pnlf hpn11
            have hwda := fa _ _ wdlf hwdl11
            obtain ⟨v, ev⟩ : ∃ x, pl8[i]? = some x := ⟨_, List.getElem?_eq_getElem (by rw [lpl]; exact hi)⟩
            obtain ⟨t, et⟩ : ∃ x, ws[i]? = some x := ⟨_, List.getElem?_eq_getElem (by rw [lws]; exact hi)⟩
            have m2t := hws i v t ev et
            (with_reducible refine w_name ?_)
            (with_reducible refine w_seq ?_)
            (with_reducible refine w_dput ?_)
            (with_reducible refine w_lc ?_)
            (with_reducible refine w_iL ?_)
            ((with_reducible refine' w_var ?hv ?_); (case hv => exact rfl))
            refine w_lcL (qs.map fun q => V.ref q.1) (fun D j H5 => Same Ha H5 ∧ Ha D = none ∧ H5 D = some (.lst ((es.take j).map fun _ => V.int v))) (.of hrl) (fun D nD => ⟨Same.new nD, nD, upd_same⟩) (fun D j H5 _ h => .of (h.1 _ _ hrl)) (fun D j y H5 hy h => ?_) (fun D H5 nD h => ?_)
            · obtain ⟨s5', nD, hD⟩ := h
              rw [List.getElem?_map] at hy
              obtain ⟨qd, eq, rfl⟩ := Option.map_eq_some_iff.mp hy
              obtain ⟨e, ee, hq⟩ := hQi.get eq
              have lj : j < 4 := by have := (List.getElem?_eq_some_iff.mp eq).1; omega
              (with_reducible refine w_name ?_)
              refine ⟨rfl, ?_⟩
              (with_reducible refine w_yes ?_)
              (with_reducible refine w_itT ?_)
              (with_reducible refine w_op ?_)
              ((with_reducible refine' w_var ?hv ?_); (case hv => exact rfl))
              ((with_reducible refine' w_var ?hv ?_); (case hv => exact rfl))
              refine w_ixL (s5' _ _ hpna) (atI_nat (by rw [List.getElem?_map, ev]; rfl)) ?_
              refine ⟨_, hD, by rw [List.length_map, List.length_take, sizeLine_eq]; omega, fun b o hb => ?_, nD, ?_⟩
              · rw [upd_ne (ne_of_none hb nD)]; exact s5' _ _ hb
              · rw [upd_same, take_more ee, List.map_append]; rfl
            · obtain ⟨s5', nD, hD⟩ := h
              rw [List.length_map, lqe, List.take_length] at hD
              ((with_reducible refine' w_var ?hv ?_); (case hv => exact rfl))
              (with_reducible refine w_op ?_)
              ((with_reducible refine' w_var ?hv ?_); (case hv => exact rfl))
              ((with_reducible refine' w_var ?hv ?_); (case hv => exact rfl))
              refine w_ixL (s5' _ _ hwda) (atI_nat (by rw [List.getElem?_map, et]; rfl)) ?_
              skip
              obtain ⟨kvs, k1, k2, k3⟩ := hVa
              obtain ⟨ala, _, hala, _⟩ := Sa.po.li
              obtain ⟨⟨xaa, haa⟩, xca, hca⟩ := Sa.hdl
              have nDf : D ∉ [l, dr] := fun z => by
                simp only [List.mem_cons, List.not_mem_nil, or_false] at z
                rcases z with rfl | rfl
                · rw [hala] at nD; cases nD
                · rw [haa] at nD; cases nD
              have eD : (es.map fun _ => V.int v) = es.map fun e => V.int (val e m2 t) := List.map_congr_left fun e _ => by
                rw [val_at e S10.po.wf m2t]
                rfl
              have hp := VAt.put (F := [l, dr]) (s5' _ _ k1) k2 (fun y hy => ⟨(k3 y hy).1, by obtain ⟨b, e1, e2⟩ := (k3 y hy).2; exact ⟨b, e1, e2.keep (FrD.of_same s5')⟩⟩) (List.getElem?_eq_some_iff.mp m2t).1 ⟨nDf, by rw [hD, eD]⟩
              rw [List.append_assoc, ← take_more et] at hp
              refine ⟨vd, _, rfl, DPut.k (k := kI (t : Int)) (s5' _ _ k1) (Nat.lt_of_le_of_lt k2 (by rw [sizeLine_eq]; omega)), ?_⟩
              obtain ⟨Hb, eHb⟩ : ∃ Hb, Hb = upd H5 vd (.dK (putK kvs (kI (t : Int)) (.ref D))) := ⟨_, rfl⟩
              have bb : But vd H5 Hb := fun b o hb h => by rw [eHb, upd_ne hb]; exact h
              have hvb : H5 vd = some (.dK kvs) := s5' _ _ k1
              rw [← eHb] at hp
              have S5a := Sa.same s5'
              have Sb : LSt P w C_Pool dr cc p l d Hb m2 := ⟨S5a.dw.keep (fun o h => bb _ _ (ne_of (s5' _ _ haa) hvb (by intro z; cases z)) h) (fun o h => bb _ _ (ne_of (s5' _ _ hca) hvb (by intro z; cases z)) h), S5a.po.but bb hvb, S5a.n1, S5a.n2⟩
              have fb : FrD [l, dr] H11 Hb := (fa.trans (FrD.of_same s5')).trans fun b xs _ e => bb _ _ (ne_of e hvb (by intro z; cases z)) e
              have hpnb := fb _ _ pnlf hpn11
              have hwdb := fb _ _ wdlf hwdl11
              obtain ⟨dxb, hob⟩ := Sb.po.ob
              rw [← eHb]
              (with_reducible refine w_ifS ?_)
              (with_reducible refine w_orT ?_)
              (with_reducible refine w_test ?_)
              (with_reducible refine w_op ?_)
              (with_reducible refine w_md ?_)
              ((with_reducible refine' w_var ?hv ?_); (case hv => exact rfl))
              refine w_kMd hob rfl ?_
              (with_reducible refine w_cons ?_)
              (with_reducible refine w_op ?_)
              ((with_reducible refine' w_var ?hv ?_); (case hv => exact rfl))
              ((with_reducible refine' w_var ?hv ?_); (case hv => exact rfl))
              refine w_ixL hwdb (atI_nat (by rw [List.getElem?_map, et]; rfl)) ?_
              (with_reducible refine w_nil ?_)
              refine ⟨p, l, d, m2, t, rfl, Sb.po, (List.getElem?_eq_some_iff.mp m2t).1, fun na x hx hna => ?_⟩
              rw [m2t] at hx
              obtain rfl := Option.some.inj hx
              (with_reducible refine w_tup ?_)
              (with_reducible refine w_cons ?_)
              (with_reducible refine w_c ?_)
              (with_reducible refine w_cons ?_)
              (with_reducible refine w_op ?_)
              ((with_reducible refine' w_var ?hv ?_); (case hv => exact rfl))
              ((with_reducible refine' w_var ?hv ?_); (case hv => exact rfl))
              refine w_ixL hpnb (atI_nat (by rw [List.getElem?_map, ev]; rfl)) ?_
              (with_reducible refine w_nil ?_)
              refine w_kTup (by show 2 ≤ sizeLine; decide) fun nt Hc nnt sc hnt => ?_
              skip
              refine w_neD (d := .tuple [.str "word", .int v]) (.tup (.of (sc _ _ hna)) (.cons (.str _) (.cons (.int _) .nil))) (.tup (.of hnt) (.cons (.str _) (.cons (.int _) .nil))) (word_shaped v) ?_
              obtain ⟨dxc, hoc⟩ := (Sb.same sc).po.ob
              have hpnc := sc _ _ hpnb
              have hwdc := sc _ _ hwdb
              (with_reducible refine w_bl ?_)
              (with_reducible refine w_itF ?_)
              (with_reducible refine w_test ?_)
              (with_reducible refine w_op ?_)
              (with_reducible refine w_md ?_)
              ((with_reducible refine' w_var ?hv ?_); (case hv => exact rfl))
              refine w_kMd hoc rfl ?_
              (with_reducible refine w_cons ?_)
              (with_reducible refine w_op ?_)
              ((with_reducible refine' w_var ?hv ?_); (case hv => exact rfl))
              ((with_reducible refine' w_var ?hv ?_); (case hv => exact rfl))
              refine w_ixL hpnc (atI_nat (by rw [List.getElem?_map, ev]; rfl)) ?_
              (with_reducible refine w_nil ?_)
              have Sc := Sb.same sc
              refine ⟨p, l, d, m2, v, rfl, Sc.po, by omega, wpl v (List.mem_of_getElem? ev), fun Hd hPd fpd => ?_⟩
              rw [intern_at S10.po.wf m2t] at hPd ⊢
              have Sd := Sc.pool hPd fpd
              have fd := ((fb.trans (FrD.of_same sc)).trans (FrD.of_pool Sc fpd (by simp)))
              have hwdd := fd _ _ wdlf hwdl11
              (with_reducible refine w_op ?_)
              ((with_reducible refine' w_var ?hv ?_); (case hv => exact rfl))
              ((with_reducible refine' w_var ?hv ?_); (case hv => exact rfl))
              refine w_ixL hwdd (atI_nat (by rw [List.getElem?_map, et]; rfl)) ?_
              (with_reducible refine w_neI ?_)
              (with_reducible refine w_bl ?_)
              rw [if_neg (by simp)]
              obtain ⟨alc, _, halc, hdc, _⟩ := Sc.po.li
              exact ⟨_, rfl, Sd, hp.keep ((FrD.of_same sc).trans (FrD.of_pool Sc fpd (by simp))) (fun kvs e => fpd _ _ (ne_of (sc _ _ e) halc (by intro z; cases z)) (ne_of (sc _ _ e) hdc (by intro z; cases z)) (sc _ _ e)), fd⟩
          · obtain ⟨b10, rfl, Sa, hVa, fa⟩ := h
            rw [← lws, List.take_length] at hVa
            (with_reducible refine w_seq ?_)
            (with_reducible refine w_asg ?_)
            (with_reducible refine w_cb ?_)
            (with_reducible refine w_cons ?_)
            ((with_reducible refine' w_var ?hv ?_); (case hv => exact rfl))
            (with_reducible refine w_nil ?_)
            refine w_listL (.of (fa _ _ lvlf hlvl11)) fun tl Hb ntl sb htl => ?_
            (with_reducible refine w_name ?_)
            (with_reducible refine w_seq ?_)
            (with_reducible refine w_for ?_)
            (with_reducible refine w_rng1 ?_)
            (with_reducible refine w_cons ?_)
            (with_reducible refine w_call ?_)
            (with_reducible refine w_cons ?_)
            ((with_reducible refine' w_var ?hv ?_); (case hv => exact rfl))
            (with_reducible refine w_cons ?_)
            (with_reducible refine w_c ?_)
            (with_reducible refine w_nil ?_)
            have Sb := Sa.same sb
            obtain ⟨ala, _, hala, _⟩ := Sa.po.li
            obtain ⟨⟨xaa, haa⟩, xca, hca⟩ := Sa.hdl
            have ntll : tl ≠ l := Ne.symm (ne_of_none hala ntl)
            have ntldr : tl ≠ dr := Ne.symm (ne_of_none haa ntl)
            have ntlcc : tl ≠ cc := Ne.symm (ne_of_none hca ntl)
            refine w_take Sb.dw (by decide) (by decide) fun m Hc m0 m1 hdc bc => ?_
            have Sc := Sb.but hdc bc
            have f3d : FrD [tl, l, dr] H11 Hc := (fa.sub (G := [tl, l, dr]) (by intro z hz; simp only [List.mem_cons, List.not_mem_nil, or_false] at hz ⊢; exact .inr hz)).trans ((FrD.of_same sb).trans (FrD.of_but bc (by simp)))
            have n3 : ∀ {b : Addr} {xs : List V}, b ∉ [l, dr] → H11 b = some (.lst xs) → b ∉ [tl, l, dr] := fun {b xs} nb hb z => (List.mem_cons.mp z).elim (fun e => ne_of_none (fa _ _ nb hb) ntl e) nb
            (with_reducible refine w_nil ?_)
            refine w_forR m.toNat (fun i σ' H'' => ∃ (b10 b12 b13 b14 b15 b16 b17 b18 b19 b20 : Option V) (ns' : List Nd) (ts : List Nat), σ' = [some (.ref a), some (.ref dr), some (.ref p), some (.ref opl), some (.ref rl), some (.ref ndl), some (.ref lvl), some (.ref pnl), some (.ref wdl), some (.ref vd), b10, some (.ref tl), b12, b13, b14, b15, b16, b17, b18, b19, b20] ∧ LSt P w C_Pool dr cc p l d H'' ns' ∧ m2 <+: ns' ∧ ns'.length ≤ 14 + 2 * i ∧ ts.length = i ∧ VAt [tl, l, dr] H'' vd es ns' (ls ++ ws ++ ts) (14 + i) ∧ LstN H'' tl (ls ++ ts) ∧ FrD [tl, l, dr] Hc H'') rfl (by omega) ?_ (fun i σ' Hd hi h => ?_) (fun σ' Hd h => ?_)
            · have hVc : VAt [tl, l, dr] Hc vd es m2 (ls ++ ws ++ []) (14 + 0) := by
                rw [List.append_nil]
                have hv := hVa.more ntl
                rw [show 6 + ws.length = 14 + 0 by omega] at hv
                refine hv.keep ((FrD.of_same sb).trans (FrD.of_but bc (by simp))) fun kvs e => bc _ _ (ne_of e haa (by intro z; cases z)) (sb _ _ e)
              exact ⟨b10, none, none, none, none, none, none, none, none, none, m2, [], rfl, Sc, List.prefix_refl _, by omega, rfl, hVc, by rw [List.append_nil]; exact bc _ _ ntldr htl, fun _ _ _ e => e⟩
            · obtain ⟨b10, b12, b13, b14, b15, b16, b17, b18, b19, b20, ns', ts, rfl, Sd, pmd, ld, lts, hVd, htd, fd⟩ := h
              (with_reducible refine w_name ?_)
              (with_reducible refine w_seq ?_)
              (with_reducible refine w_asg ?_)
              (with_reducible refine w_op ?_)
              ((with_reducible refine' w_var ?hv ?_); (case hv => exact rfl))
              (with_reducible refine w_call ?_)
              (with_reducible refine w_cons ?_)
              ((with_reducible refine' w_var ?hv ?_); (case hv => exact rfl))
              (with_reducible refine w_cons ?_)
              (with_reducible refine w_c ?_)
              (with_reducible refine w_nil ?_)
              refine w_take Sd.dw (by decide) (by decide) fun k He k0 k1 hde be => ?_
              have Se := Sd.but hde be
              have fd3 := f3d.trans fd
              have fe : FrD [tl, l, dr] H11 He := fd3.trans (FrD.of_but be (by simp))
              have hope := fe _ _ (n3 oplf hop11) hop11
              obtain ⟨o, eo⟩ : ∃ o, ops15[k.toNat]? = some o := ⟨_, List.getElem?_eq_getElem (show k.toNat < 15 by omega)⟩
              have io := ops15_ok (List.mem_of_getElem? eo)
              refine w_ixL hope (atI_of k0 (by rw [List.getElem?_map, eo]; rfl)) ?_
              (with_reducible refine w_name ?_)
              (with_reducible refine w_seq ?_)
              (with_reducible refine w_asg ?_)
              (with_reducible refine w_call ?_)
              (with_reducible refine w_cons ?_)
              ((with_reducible refine' w_var ?hv ?_); (case hv => exact rfl))
              (with_reducible refine w_cons ?_)
              ((with_reducible refine' w_var ?hv ?_); (case hv => exact rfl))
              (with_reducible refine w_cons ?_)
              ((with_reducible refine' w_var ?hv ?_); (case hv => exact rfl))
              (with_reducible refine w_nil ?_)
              have hte : LstN He tl (ls ++ ts) := be _ _ ntldr htd
              have hwe : LstN He wdl ws := fe _ _ (n3 wdlf hwdl11) hwdl11
              have wdr : wdl ≠ dr := fun z => wdlf (by simp [z])
              refine ⟨dr, cc, tl, wdl, ls ++ ts, ws, rfl, hde, hte, hwe, ntldr, wdr, by rw [List.length_append]; omega, by rw [List.length_append]; omega, by omega, by omega, fun x Hf hx hdf bf => ?_⟩
              have Sf := Se.but hdf bf
              (with_reducible refine w_name ?_)
              (with_reducible refine w_seq ?_)
              (with_reducible refine w_asg ?_)
              (with_reducible refine w_call ?_)
              (with_reducible refine w_cons ?_)
              ((with_reducible refine' w_var ?hv ?_); (case hv => exact rfl))
              (with_reducible refine w_cons ?_)
              ((with_reducible refine' w_var ?hv ?_); (case hv => exact rfl))
              (with_reducible refine w_cons ?_)
              ((with_reducible refine' w_var ?hv ?_); (case hv => exact rfl))
              (with_reducible refine w_nil ?_)
              refine ⟨dr, cc, tl, wdl, ls ++ ts, ws, rfl, hdf, bf _ _ ntldr hte, bf _ _ wdr hwe, ntldr, wdr, by rw [List.length_append]; omega, by rw [List.length_append]; omega, by omega, by omega, fun y Hg hy hdg bg => ?_⟩
              have Sg := Sf.but hdg bg
              (with_reducible refine w_name ?_)
              (with_reducible refine w_seq ?_)
              (with_reducible refine w_asg ?_)
              (with_reducible refine w_md ?_)
              ((with_reducible refine' w_var ?hv ?_); (case hv => exact rfl))
              obtain ⟨dxg, hog⟩ := Sg.po.ob
              refine w_kMd hog rfl ?_
              (with_reducible refine w_cons ?_)
              ((with_reducible refine' w_var ?hv ?_); (case hv => exact rfl))
              (with_reducible refine w_cons ?_)
              ((with_reducible refine' w_var ?hv ?_); (case hv => exact rfl))
              (with_reducible refine w_cons ?_)
              ((with_reducible refine' w_var ?hv ?_); (case hv => exact rfl))
              (with_reducible refine w_nil ?_)
              have inT : ∀ {z : Nat}, z ∈ ls ++ ts ∨ z ∈ ws → z ∈ ls ++ ws ++ ts := fun {z} h => by
                simp only [List.mem_append] at h ⊢
                rcases h with (h | h) | h
                · exact .inl (.inl h)
                · exact .inr h
                · exact .inl (.inr h)
              have xl : x < ns'.length := by obtain ⟨kvs, _, _, k3⟩ := hVd; exact (k3 x (inT hx)).1
              have yl : y < ns'.length := by obtain ⟨kvs, _, _, k3⟩ := hVd; exact (k3 y (inT hy)).1
              refine Sg.normal (by omega) io xl yl fun Hh Sh fh ph lh => ?_
              have GN := gNormal Sg.po.wf io xl yl
              have rlt := GN.go.lt
              have vr := GN.val
              have ag := GN.again
              generalize eR : (normalF ns' o x y).2 = r at *
              generalize eM : (normalF ns' o x y).1 = ns2 at *
              (with_reducible refine w_name ?_)
              (with_reducible refine w_seq ?_)
              (with_reducible refine w_asg ?_)
              (with_reducible refine w_lc ?_)
              (with_reducible refine w_rng1 ?_)
              (with_reducible refine w_cons ?_)
              (with_reducible refine w_c ?_)
              (with_reducible refine w_nil ?_)
              have fdh : FrD [tl, l, dr] Hd Hh := ((FrD.of_but be (by simp)).trans (FrD.of_but bf (by simp))).trans ((FrD.of_but bg (by simp)).trans (FrD.of_pool Sg fh (by simp)))
              obtain ⟨alg, _, halg, hdg', _⟩ := Sg.po.li
              obtain ⟨⟨xdd, hdd⟩, _⟩ := Sd.hdl
              have kd : ∀ kvs, Hd vd = some (.dK kvs) → Hh vd = some (.dK kvs) := fun kvs e => by
                have n1 : vd ≠ dr := ne_of e hdd (by intro z; cases z)
                have e3 := bg _ _ n1 (bf _ _ n1 (be _ _ n1 e))
                exact fh _ _ (ne_of e3 halg (by intro z; cases z)) (ne_of e3 hdg' (by intro z; cases z)) e3
              have hVh := (hVd.keep fdh kd).pre ph
              obtain ⟨kvs, hk1, hk2, hk3⟩ := hVh
              obtain ⟨xl2, xa, xe, xo⟩ := hk3 x (inT hx)
              obtain ⟨yl2, ya, ye, yo⟩ := hk3 y (inT hy)
              have les : es.length = 4 := by have := hQ.len; omega
              refine w_lcR 4 (fun D j H' => Same Hh H' ∧ Hh D = none ∧ H' D = some (.lst ((es.take j).map fun e => V.int (val e ns2 r)))) rfl (by decide) (fun D nD => ⟨Same.new nD, nD, upd_same⟩) (fun D j H' hj h => ?_) (fun dl Hi nD h => ?_)
              · obtain ⟨s5', nD, hD⟩ := h
                obtain ⟨e, ee⟩ : ∃ e, es[j]? = some e := ⟨_, List.getElem?_eq_getElem (by omega)⟩
                (with_reducible refine w_name ?_)
                refine ⟨rfl, ?_⟩
                obtain ⟨qd, eqd⟩ : ∃ q, qs[j]? = some q := ⟨_, List.getElem?_eq_getElem (by omega)⟩
                have eok : e.Ok := by
                  obtain ⟨e', ee', hq⟩ := hQ11.get eqd
                  rw [ee] at ee'
                  cases ee'
                  exact hq.ok
                (with_reducible refine w_yes ?_)
                (with_reducible refine w_itT ?_)
                (with_reducible refine w_call ?_)
                (with_reducible refine w_cons ?_)
                ((with_reducible refine' w_var ?hv ?_); (case hv => exact rfl))
                (with_reducible refine w_cons ?_)
                (with_reducible refine w_op ?_)
                (with_reducible refine w_dget ?_)
                ((with_reducible refine' w_var ?hv ?_); (case hv => exact rfl))
                ((with_reducible refine' w_var ?hv ?_); (case hv => exact rfl))
                refine w_kDGI (s5' _ _ hk1) xe ?_
                ((with_reducible refine' w_var ?hv ?_); (case hv => exact rfl))
                refine w_ixL (s5' _ _ xo.at_) (atI_nat (by rw [List.getElem?_map, ee]; rfl)) ?_
                (with_reducible refine w_cons ?_)
                (with_reducible refine w_op ?_)
                (with_reducible refine w_dget ?_)
                ((with_reducible refine' w_var ?hv ?_); (case hv => exact rfl))
                ((with_reducible refine' w_var ?hv ?_); (case hv => exact rfl))
                refine w_kDGI (s5' _ _ hk1) ye ?_
                ((with_reducible refine' w_var ?hv ?_); (case hv => exact rfl))
                refine w_ixL (s5' _ _ yo.at_) (atI_nat (by rw [List.getElem?_map, ee]; rfl)) ?_
                (with_reducible refine w_nil ?_)
                obtain ⟨g, hg⟩ := id io
                refine ⟨o, g, _, _, rfl, hg, vals_w32 eok Sh.po.wf x xl2, vals_w32 eok Sh.po.wf y yl2, ?_⟩
                have ev : g (val e ns2 x) (val e ns2 y) = val e ns2 r := by
                  rw [vr e eok, opF_of hg, val_pre e ph xl, val_pre e ph yl]
                rw [ev]
                refine ⟨_, hD, by rw [List.length_map, List.length_take, sizeLine_eq]; omega, fun b o hb => ?_, nD, ?_⟩
                · rw [upd_ne (ne_of_none hb nD)]; exact s5' _ _ hb
                · rw [upd_same, take_more ee, List.map_append]; rfl
              · obtain ⟨s5', nD, hD⟩ := h
                rw [← les, List.take_length] at hD
                have Si := Sh.same s5'
                obtain ⟨dxi, hoi⟩ := Si.po.ob
                (with_reducible refine w_name ?_)
                (with_reducible refine w_seq ?_)
                (with_reducible refine w_ifS ?_)
                (with_reducible refine w_orT ?_)
                (with_reducible refine w_test ?_)
                (with_reducible refine w_op ?_)
                ((with_reducible refine' w_var ?hv ?_); (case hv => exact rfl))
                (with_reducible refine w_md ?_)
                ((with_reducible refine' w_var ?hv ?_); (case hv => exact rfl))
                refine w_kMd hoi rfl ?_
                (with_reducible refine w_cons ?_)
                ((with_reducible refine' w_var ?hv ?_); (case hv => exact rfl))
                (with_reducible refine w_cons ?_)
                ((with_reducible refine' w_var ?hv ?_); (case hv => exact rfl))
                (with_reducible refine w_cons ?_)
                ((with_reducible refine' w_var ?hv ?_); (case hv => exact rfl))
                (with_reducible refine w_nil ?_)
                refine Si.normal (by omega) io xl2 yl2 fun Hj Sj fj pj lj => ?_
                have e2 := ag ns2 Sh.po.wf (List.prefix_refl _)
                rw [e2] at Sj ⊢
                (with_reducible refine w_neI ?_)
                (with_reducible refine w_bl ?_)
                rw [if_neg (by simp)]
                obtain ⟨dxj, hoj⟩ := Sj.po.ob
                (with_reducible refine w_test ?_)
                (with_reducible refine w_op ?_)
                (with_reducible refine w_md ?_)
                ((with_reducible refine' w_var ?hv ?_); (case hv => exact rfl))
                refine w_kMd hoj rfl ?_
                (with_reducible refine w_cons ?_)
                (with_reducible refine w_md ?_)
                ((with_reducible refine' w_var ?hv ?_); (case hv => exact rfl))
                refine w_kMd hoj rfl ?_
                (with_reducible refine w_cons ?_)
                ((with_reducible refine' w_var ?hv ?_); (case hv => exact rfl))
                (with_reducible refine w_nil ?_)
                refine ⟨p, l, d, ns2, r, rfl, Sj.po, rlt, fun na xn hx hna => ?_⟩
                (with_reducible refine w_nil ?_)
                refine ⟨p, l, d, ns2, na, xn, rfl, Sj.po, by omega, hna, ?_, fun Hk hPk fk => ?_⟩
                · have := Sj.po.wf.ok r xn hx
                  cases xn with
                  | word w => exact this
                  | leaf k n => exact this
                  | op o s t => exact ⟨this.1, Nat.lt_trans this.2.1 rlt, Nat.lt_trans this.2.2 rlt⟩
                  | sum c ps => exact ⟨this.1, fun p hp => ⟨by have := (this.2 p hp).1; omega, (this.2 p hp).2⟩⟩
                have Sk := Sj.pool hPk fk
                rw [intern_at Sj.po.wf hx] at Sk ⊢
                ((with_reducible refine' w_var ?hv ?_); (case hv => exact rfl))
                (with_reducible refine w_neI ?_)
                (with_reducible refine w_bl ?_)
                rw [if_neg (by simp)]
                (with_reducible refine w_next ?_)
                (with_reducible refine w_seq ?_)
                (with_reducible refine w_for ?_)
                (with_reducible refine w_rng1 ?_)
                (with_reducible refine w_cons ?_)
                (with_reducible refine w_c ?_)
                (with_reducible refine w_nil ?_)
                have fik : FrD [tl, l, dr] Hi Hk := (FrD.of_pool Si fj (by simp)).trans (FrD.of_pool Sj fk (by simp))
                have fhk : FrD [tl, l, dr] Hh Hk := (FrD.of_same s5').trans fik
                have f11k : FrD [tl, l, dr] H11 Hk := fd3.trans (fdh.trans fhk)
                have hrlk := f11k _ _ (n3 rlf hrl11) hrl11
                have hQk : QsAt [tl, l, dr] Hk qs es := (((hQ11.keep fa).more ntl).keep ((FrD.of_same sb).trans (FrD.of_but bc (by simp)))).keep (fd.trans (fdh.trans fhk))
                have ndlf : dl ∉ [tl, l, dr] := fun z => by
                  obtain ⟨alh, _, halh, _⟩ := Sh.po.li
                  obtain ⟨⟨xh, hxh⟩, _⟩ := Sh.hdl
                  simp only [List.mem_cons, List.not_mem_nil, or_false] at z
                  rcases z with z | z | z
                  · have hth := fh _ _ ntll (ne_of (bg _ _ ntldr (bf _ _ ntldr hte)) hdg' (by intro z; cases z)) (bg _ _ ntldr (bf _ _ ntldr hte))
                    exact Ne.symm (ne_of_none hth nD) z
                  · exact Ne.symm (ne_of_none halh nD) z
                  · exact Ne.symm (ne_of_none hxh nD) z
                have hdk := fik _ _ ndlf hD
                refine w_forR 4 (fun j σ' H' => ∃ (c17 c18 c19 c20 : Option V), σ' = [some (.ref a), some (.ref dr), some (.ref p), some (.ref opl), some (.ref rl), some (.ref ndl), some (.ref lvl), some (.ref pnl), some (.ref wdl), some (.ref vd), some (.int (i : Int)), some (.ref tl), some (.str o), some (.int (x : Int)), some (.int (y : Int)), some (.int (r : Int)), some (.ref dl), c17, c18, c19, c20] ∧ Same Hk H') rfl (by decide) ⟨_, _, _, _, rfl, fun _ _ e => e⟩ (fun j σ' Hl hj h => ?_) (fun σ' Hl h => ?_)
                · obtain ⟨c17, c18, c19, c20, rfl, sl⟩ := h
                  have Sl := Sk.same sl
                  obtain ⟨dxl, hol⟩ := Sl.po.ob
                  obtain ⟨qd, eqd⟩ : ∃ q, qs[j]? = some q := ⟨_, List.getElem?_eq_getElem (by omega)⟩
                  obtain ⟨e, ee, hq⟩ := hQk.get eqd
                  (with_reducible refine w_name ?_)
                  (with_reducible refine w_ifS ?_)
                  (with_reducible refine w_test ?_)
                  (with_reducible refine w_op ?_)
                  (with_reducible refine w_md ?_)
                  ((with_reducible refine' w_var ?hv ?_); (case hv => exact rfl))
                  refine w_kMd hol rfl ?_
                  (with_reducible refine w_cons ?_)
                  ((with_reducible refine' w_var ?hv ?_); (case hv => exact rfl))
                  (with_reducible refine w_cons ?_)
                  (with_reducible refine w_cb ?_)
                  (with_reducible refine w_cons ?_)
                  (with_reducible refine w_op ?_)
                  (with_reducible refine w_op ?_)
                  ((with_reducible refine' w_var ?hv ?_); (case hv => exact rfl))
                  ((with_reducible refine' w_var ?hv ?_); (case hv => exact rfl))
                  refine w_ixL (sl _ _ hrlk) (atI_nat (by rw [List.getElem?_map, eqd]; rfl)) ?_
                  (with_reducible refine w_c ?_)
                  refine w_ixL (sl _ _ hq.o0.at_) (atI_of (by decide) rfl) ?_
                  (with_reducible refine w_nil ?_)
                  refine w_listL (.of (sl _ _ hq.o1.at_)) fun g1 Hm1 ng1 sm1 hg1 => ?_
                  (with_reducible refine w_cons ?_)
                  (with_reducible refine w_cb ?_)
                  (with_reducible refine w_cons ?_)
                  (with_reducible refine w_op ?_)
                  (with_reducible refine w_op ?_)
                  ((with_reducible refine' w_var ?hv ?_); (case hv => exact rfl))
                  ((with_reducible refine' w_var ?hv ?_); (case hv => exact rfl))
                  refine w_ixL (sm1 _ _ (sl _ _ hrlk)) (atI_nat (by rw [List.getElem?_map, eqd]; rfl)) ?_
                  (with_reducible refine w_c ?_)
                  refine w_ixL (sm1 _ _ (sl _ _ hq.o0.at_)) (atI_of (by decide) rfl) ?_
                  (with_reducible refine w_nil ?_)
                  refine w_listL (.of (sm1 _ _ (sl _ _ hq.o2.at_))) fun g2 Hm2 ng2 sm2 hg2 => ?_
                  (with_reducible refine w_cons ?_)
                  (with_reducible refine w_cb ?_)
                  (with_reducible refine w_cons ?_)
                  (with_reducible refine w_op ?_)
                  (with_reducible refine w_op ?_)
                  ((with_reducible refine' w_var ?hv ?_); (case hv => exact rfl))
                  ((with_reducible refine' w_var ?hv ?_); (case hv => exact rfl))
                  refine w_ixL (sm2 _ _ (sm1 _ _ (sl _ _ hrlk))) (atI_nat (by rw [List.getElem?_map, eqd]; rfl)) ?_
                  (with_reducible refine w_c ?_)
                  refine w_ixL (sm2 _ _ (sm1 _ _ (sl _ _ hq.o0.at_))) (atI_of (by decide) rfl) ?_
                  (with_reducible refine w_nil ?_)
                  refine w_listL (.of (sm2 _ _ (sm1 _ _ (sl _ _ hq.o3.at_)))) fun g3 Hm3 ng3 sm3 hg3 => ?_
                  have slm : Same Hl Hm3 := (sm1.trans sm2).trans sm3
                  (with_reducible refine w_nil ?_)
                  refine ⟨p, l, d, g1, g2, g3, ns2, r, e, rfl, Sl.po.same slm, by omega, rlt, ⟨sm3 _ _ (sm2 _ _ hg1), sm3 _ _ hg2, hg3⟩, hq.ok, fun Hn sn => ?_⟩
                  (with_reducible refine w_op ?_)
                  ((with_reducible refine' w_var ?hv ?_); (case hv => exact rfl))
                  ((with_reducible refine' w_var ?hv ?_); (case hv => exact rfl))
                  refine w_ixL (sn _ _ (slm _ _ (sl _ _ hdk))) (atI_nat (by rw [List.getElem?_map, ee]; rfl)) ?_
                  (with_reducible refine w_neI ?_)
                  (with_reducible refine w_bl ?_)
                  rw [if_neg (by simp)]
                  exact ⟨_, _, _, _, rfl, sl.trans (slm.trans sn)⟩
                · obtain ⟨c17, c18, c19, c20, rfl, sl⟩ := h
                  have Sl := Sk.same sl
                  obtain ⟨all, _, hall, hdl', _⟩ := Sl.po.li
                  obtain ⟨⟨xll, hxl⟩, xcl, hcl⟩ := Sl.hdl
                  have fhl : FrD [tl, l, dr] Hh Hl := fhk.trans (FrD.of_same sl)
                  have k1l : Hl vd = some (.dK kvs) := by
                    have e1 := s5' _ _ hk1
                    obtain ⟨al1, _, hal1, hd1', _⟩ := Si.po.li
                    have n1 : vd ≠ l := ne_of e1 hal1 (by intro z; cases z)
                    have n2 : vd ≠ d := ne_of e1 hd1' (by intro z; cases z)
                    exact sl _ _ (fk _ _ n1 n2 (fj _ _ n1 n2 e1))
                  have tld : tl ≠ d := by
                    have := bg _ _ ntldr (bf _ _ ntldr hte)
                    exact ne_of this hdg' (by intro z; cases z)
                  have htl' : LstN Hl tl (ls ++ ts) := sl _ _ (fk _ _ ntll tld (fj _ _ ntll tld (s5' _ _ (fh _ _ ntll tld (bg _ _ ntldr (bf _ _ ntldr hte))))))
                  have hput := VAt.put (F := [tl, l, dr]) k1l hk2 (fun z hz => ⟨(hk3 z hz).1, by obtain ⟨b, e1, e2⟩ := (hk3 z hz).2; exact ⟨b, e1, e2.keep fhl⟩⟩) rlt ⟨ndlf, sl _ _ hdk⟩
                  (with_reducible refine w_seq ?_)
                  (with_reducible refine w_dput ?_)
                  ((with_reducible refine' w_var ?hv ?_); (case hv => exact rfl))
                  ((with_reducible refine' w_var ?hv ?_); (case hv => exact rfl))
                  ((with_reducible refine' w_var ?hv ?_); (case hv => exact rfl))
                  refine ⟨vd, _, rfl, DPut.k (k := kI (r : Int)) k1l (Nat.lt_of_le_of_lt hk2 (by rw [sizeLine_eq]; omega)), ?_⟩
                  obtain ⟨Hp, eHp⟩ : ∃ Hp, Hp = upd Hl vd (.dK (putK kvs (kI (r : Int)) (.ref dl))) := ⟨_, rfl⟩
                  have bp : But vd Hl Hp := fun b o hb h => by rw [eHp, upd_ne hb]; exact h
                  rw [← eHp] at hput
                  have Sp' : LSt P w C_Pool dr cc p l d Hp ns2 := ⟨Sl.dw.keep (fun o h => bp _ _ (ne_of hxl k1l (by intro z; cases z)) h) (fun o h => bp _ _ (ne_of hcl k1l (by intro z; cases z)) h), Sl.po.but bp k1l, Sl.n1, Sl.n2⟩
                  have fp : FrD [tl, l, dr] Hl Hp := fun b xs _ e => bp _ _ (ne_of e k1l (by intro z; cases z)) e
                  have htp : LstN Hp tl (ls ++ ts) := bp _ _ (ne_of htl' k1l (by intro z; cases z)) htl'
                  rw [← eHp]
                  (with_reducible refine w_seq ?_)
                  (with_reducible refine w_drop ?_)
                  (with_reducible refine w_bm ?_)
                  ((with_reducible refine' w_var ?hv ?_); (case hv => exact rfl))
                  ((with_reducible refine' w_tyL ?hh ?_); (case hh => assumption))
                  (with_reducible refine w_cons ?_)
                  ((with_reducible refine' w_var ?hv ?_); (case hv => exact rfl))
                  (with_reducible refine w_nil ?_)
                  refine w_append htp (by rw [List.length_map, List.length_append, sizeLine_eq]; omega) fun Hq hq bq => ?_
                  have Sq := Sp'.butl bq htp (Ne.symm ntldr) (Ne.symm ntlcc) (Ne.symm ntll)
                  have fq : FrD [tl, l, dr] H11 Hq := ((f11k.trans (FrD.of_same sl)).trans fp).trans (FrD.of_but bq (by simp))
                  have hopq := fq _ _ (n3 oplf hop11) hop11
                  have hVq := hput.keep (FrD.of_but bq (by simp)) fun kvs e => bq _ _ (ne_of e htp (by intro z; cases z)) e
                  obtain ⟨dxq, hoq⟩ := Sq.po.ob
                  (with_reducible refine w_seq ?_)
                  (with_reducible refine w_asg ?_)
                  (with_reducible refine w_md ?_)
                  ((with_reducible refine' w_var ?hv ?_); (case hv => exact rfl))
                  refine w_kMd hoq rfl ?_
                  (with_reducible refine w_cons ?_)
                  ((with_reducible refine' w_var ?hv ?_); (case hv => exact rfl))
                  (with_reducible refine w_nil ?_)
                  refine ⟨p, l, d, ns2, r, rfl, Sq.po, rlt, fun nb xn' hx' hnb => ?_⟩
                  rw [hx] at hx'
                  obtain rfl := Option.some.inj hx'
                  have okn := Sq.po.wf.ok r xn hx
                  have last : ∀ {σ : L2.St} {b17 b18 b19 b20 : Option V}, σ = [some (.ref a), some (.ref dr), some (.ref p), some (.ref opl), some (.ref rl), some (.ref ndl), some (.ref lvl), some (.ref pnl), some (.ref wdl), some (.ref vd), some (.int (i : Int)), some (.ref tl), some (.str o), some (.int (x : Int)), some (.int (y : Int)), some (.int (r : Int)), some (.ref dl), b17, b18, b19, b20] → ∃ (b10 b12 b13 b14 b15 b16 b17 b18 b19 b20 : Option V) (ns' : List Nd) (ts : List Nat), σ = [some (.ref a), some (.ref dr), some (.ref p), some (.ref opl), some (.ref rl), some (.ref ndl), some (.ref lvl), some (.ref pnl), some (.ref wdl), some (.ref vd), b10, some (.ref tl), b12, b13, b14, b15, b16, b17, b18, b19, b20] ∧ LSt P w C_Pool dr cc p l d Hq ns' ∧ m2 <+: ns' ∧ ns'.length ≤ 14 + 2 * (i + 1) ∧ ts.length = i + 1 ∧ VAt [tl, l, dr] Hq vd es ns' (ls ++ ws ++ ts) (14 + (i + 1)) ∧ LstN Hq tl (ls ++ ts) ∧ FrD [tl, l, dr] Hc Hq := fun {σ b17 b18 b19 b20} e => ⟨_, _, _, _, _, _, _, _, _, _, ns2, ts ++ [r], e, Sq, pmd.trans ph, by omega, by rw [List.length_append, lts]; rfl, by rw [← List.append_assoc]; exact hVq, by show Hq tl = _; rw [hq, ← List.append_assoc, List.map_append (l₁ := ls ++ ts)]; rfl, ((fd.trans (fdh.trans fhl)).trans fp).trans (FrD.of_but bq (by simp))⟩
                  have nin : ∀ {z : Str}, ¬ IsOp z → decide (z ∈ ops15) = false := fun n => decide_eq_false fun m => n (ops15_ok m)
                  (with_reducible refine w_name ?_)
                  (with_reducible refine w_ifS ?_)
                  (with_reducible refine w_andT ?_)
                  (with_reducible refine w_test ?_)
                  (with_reducible refine w_op ?_)
                  (with_reducible refine w_op ?_)
                  ((with_reducible refine' w_var ?hv ?_); (case hv => exact rfl))
                  (with_reducible refine w_c ?_)
                  cases xn with
                  | word v =>
                    refine w_ixT hnb rfl ?_
                    ((with_reducible refine' w_var ?hv ?_); (case hv => exact rfl))
                    refine w_inL (b := false) hopq rfl rfl (by rw [inV_str]; exact nin fun z => (op_name z).1 rfl) ?_
                    (with_reducible refine w_bl ?_)
                    (with_reducible refine w_itF ?_)
                    (with_reducible refine w_itF ?_)
                    (with_reducible refine w_next ?_)
                    exact last rfl
                  | leaf kk n =>
                    refine w_ixT hnb rfl ?_
                    ((with_reducible refine' w_var ?hv ?_); (case hv => exact rfl))
                    refine w_inL (b := false) hopq rfl rfl (by
                      rw [inV_str]
                      refine nin fun z => ?_
                      have q := op_name z
                      rcases (leaf_name okn).2.2 with rfl | rfl | rfl | rfl
                      · exact q.2.2.1 rfl
                      · exact q.2.2.2.1 rfl
                      · exact q.2.2.2.2.1 rfl
                      · exact q.2.2.2.2.2 rfl) ?_
                    (with_reducible refine w_bl ?_)
                    (with_reducible refine w_itF ?_)
                    (with_reducible refine w_itF ?_)
                    (with_reducible refine w_next ?_)
                    exact last rfl
                  | sum c ps =>
                    obtain ⟨pb, hpb, _⟩ := hnb
                    refine w_ixT hpb rfl ?_
                    ((with_reducible refine' w_var ?hv ?_); (case hv => exact rfl))
                    refine w_inL (b := false) hopq rfl rfl (by rw [inV_str]; exact nin fun z => (op_name z).2.1 rfl) ?_
                    (with_reducible refine w_bl ?_)
                    (with_reducible refine w_itF ?_)
                    (with_reducible refine w_itF ?_)
                    (with_reducible refine w_next ?_)
                    exact last rfl
                  | op o' s' t' =>
                    have ls' : ¬ ((r : Int) ≤ (s' : Int)) := by have : s' < r := okn.2.1; omega
                    have lt' : ¬ ((r : Int) ≤ (t' : Int)) := by have : t' < r := okn.2.2; omega
                    refine w_ixT hnb rfl ?_
                    ((with_reducible refine' w_var ?hv ?_); (case hv => exact rfl))
                    refine w_inL (b := true) hopq rfl rfl (by rw [inV_str]; exact decide_eq_true (ops15_in okn.1)) ?_
                    (with_reducible refine w_bl ?_)
                    (with_reducible refine w_itT ?_)
                    (with_reducible refine w_orT ?_)
                    (with_reducible refine w_test ?_)
                    (with_reducible refine w_op ?_)
                    (with_reducible refine w_op ?_)
                    ((with_reducible refine' w_var ?hv ?_); (case hv => exact rfl))
                    (with_reducible refine w_c ?_)
                    ((with_reducible refine' w_ixT ?hh ?ha ?_); (case hh => assumption); (case ha => exact rfl))
                    ((with_reducible refine' w_var ?hv ?_); (case hv => exact rfl))
                    (with_reducible refine w_I0 ?_)
                    (with_reducible refine w_bl ?_)
                    rw [if_neg (by rw [decide_eq_true_iff]; exact ls')]
                    (with_reducible refine w_test ?_)
                    (with_reducible refine w_op ?_)
                    (with_reducible refine w_op ?_)
                    ((with_reducible refine' w_var ?hv ?_); (case hv => exact rfl))
                    (with_reducible refine w_c ?_)
                    ((with_reducible refine' w_ixT ?hh ?ha ?_); (case hh => assumption); (case ha => exact rfl))
                    ((with_reducible refine' w_var ?hv ?_); (case hv => exact rfl))
                    (with_reducible refine w_I0 ?_)
                    (with_reducible refine w_bl ?_)
                    rw [if_neg (by rw [decide_eq_true_iff]; exact lt')]
                    exact last rfl
            · obtain ⟨b10, b12, b13, b14, b15, b16, b17, b18, b19, b20, ns', ts, rfl, Sd, pmd, ld, lts, hVd, htd, fd⟩ := h
              (with_reducible refine w_ret ?_)
              (with_reducible refine w_call ?_)
              (with_reducible refine w_cons ?_)
              ((with_reducible refine' w_var ?hv ?_); (case hv => exact rfl))
              (with_reducible refine w_cons ?_)
              ((with_reducible refine' w_var ?hv ?_); (case hv => exact rfl))
              (with_reducible refine w_cons ?_)
              ((with_reducible refine' w_var ?hv ?_); (case hv => exact rfl))
              (with_reducible refine w_nil ?_)
              have lfd : ∀ a ∈ ls, ∃ k n, ns'[a]? = some (.leaf k n) := fun a ha => by
                obtain ⟨j, ej⟩ := List.mem_iff_getElem?.mp ha
                obtain ⟨x, ex⟩ : ∃ x, leafNds[j]? = some x := ⟨_, List.getElem?_eq_getElem (show j < 6 by have := (List.getElem?_eq_some_iff.mp ej).1; omega)⟩
                obtain ⟨kk, nn, exk, _⟩ := leafNds_ok (List.mem_of_getElem? ex)
                exact ⟨kk, nn, by rw [pre_get' pmd (lf10 j x a ex ej), exk]⟩
              have hlvd : LstN Hd lvl ls := (f3d.trans fd) _ _ (n3 lvlf hlvl11) hlvl11
              exact ⟨dr, cc, p, l, d, lvl, ns', ls, rfl, Sd.dw, Sd.po, by omega, hlvd, lls, lfd, Sd.n1, Sd.n2, fun z => lvlf (by simp [z]), fun z => lvlf (by simp [z]), q⟩
end
end K30

namespace K30
theorem all_mk {l : PySem.W.OpenLaw} {w : World} {K : PySem.W.Frag} {h : Heap} {mg : Str → Option Value} {fa : Addr} (X : K.In h) (G : h.Ns mainGlobals mg) (hfa : mg "law" = some (.ref fa)) (c : SaysZ cks fns tabs w K)
    {LV : Addr} {itLV : Array Value} {nLV : Nat} {slLV : Array (Option Value)} (aLV : PySem.W.nsIn K mainGlobals "LEAVES" = some (some (.ref LV))) (lLV : K.lookup LV = some ⟨.type "tuple", none, .seq itLV nLV, slLV⟩) (zLV : itLV.size ≤ sizeLine) (vLV : Vals [.str "word", .str "in", .str "loose", .str "load", .str "get"] itLV.toList) {II : Addr} {esI : Array DictEntry} {nI : Nat} (aII : PySem.W.nsIn K mainGlobals "OPS_OF_IMMEDIATES" = some (some (.ref II))) (lII : K.lookup II = some ⟨.type "dict", none, .dict esI nI, #[]⟩) (kII : PySem.W.KeysLit w.params esI.toList) (sII : (II == sysModules) = false) {ti_addi ti_andi ti_ori ti_xori ti_shli ti_shri ti_sari ti_slti : Tok} (i_addi : PySem.W.nsIn K II "addi" = some (some (.str "add" ti_addi))) (i_andi : PySem.W.nsIn K II "andi" = some (some (.str "and" ti_andi))) (i_ori : PySem.W.nsIn K II "ori" = some (some (.str "or" ti_ori))) (i_xori : PySem.W.nsIn K II "xori" = some (some (.str "xor" ti_xori))) (i_shli : PySem.W.nsIn K II "shli" = some (some (.str "shl" ti_shli))) (i_shri : PySem.W.nsIn K II "shri" = some (some (.str "shr" ti_shri))) (i_sari : PySem.W.nsIn K II "sari" = some (some (.str "sar" ti_sari))) (i_slti : PySem.W.nsIn K II "slti" = some (some (.str "slt" ti_slti))) (i_add : PySem.W.nsIn K II "add" = some none) (i_sub : PySem.W.nsIn K II "sub" = some none) (i_mul : PySem.W.nsIn K II "mul" = some none) (i_and : PySem.W.nsIn K II "and" = some none) (i_or : PySem.W.nsIn K II "or" = some none) (i_xor : PySem.W.nsIn K II "xor" = some none) (i_shl : PySem.W.nsIn K II "shl" = some none) (i_shr : PySem.W.nsIn K II "shr" = some none) (i_sar : PySem.W.nsIn K II "sar" = some none) (i_slt : PySem.W.nsIn K II "slt" = some none) (i_sltu : PySem.W.nsIn K II "sltu" = some none) (i_divu : PySem.W.nsIn K II "divu" = some none) (i_remu : PySem.W.nsIn K II "remu" = some none) {RU : Addr} {esU : Array DictEntry} {nU : Nat} (aRU : PySem.W.nsIn K mainGlobals "RULES" = some (some (.ref RU))) (lRU : K.lookup RU = some ⟨.type "dict", none, .dict esU nU, #[]⟩) (kRU : PySem.W.KeysLit w.params esU.toList) (sRU : (RU == sysModules) = false) (u_add : PySem.W.nsIn K RU "add" = some none) (u_sub : PySem.W.nsIn K RU "sub" = some none) (u_mul : PySem.W.nsIn K RU "mul" = some (some (.ref (He.ga K "_mul")))) (u_and : PySem.W.nsIn K RU "and" = some (some (.ref (He.ga K "_and")))) (u_or : PySem.W.nsIn K RU "or" = some (some (.ref (He.ga K "_or")))) (u_xor : PySem.W.nsIn K RU "xor" = some (some (.ref (He.ga K "_xor")))) (u_shl : PySem.W.nsIn K RU "shl" = some (some (.ref (He.ga K "_shift")))) (u_shr : PySem.W.nsIn K RU "shr" = some (some (.ref (He.ga K "_shift")))) (u_sar : PySem.W.nsIn K RU "sar" = some (some (.ref (He.ga K "_shift")))) (u_slt : PySem.W.nsIn K RU "slt" = some (some (.ref (He.ga K "_less")))) (u_sltu : PySem.W.nsIn K RU "sltu" = some (some (.ref (He.ga K "_less")))) (u_divu : PySem.W.nsIn K RU "divu" = some (some (.ref (He.ga K "_divu")))) (u_remu : PySem.W.nsIn K RU "remu" = some (some (.ref (He.ga K "_remu")))) {RR : Addr} {esR : Array DictEntry} {nR : Nat} (aRR : PySem.W.nsIn K mainGlobals "RESULTS" = some (some (.ref RR))) (lRR : K.lookup RR = some ⟨.type "dict", none, .dict esR nR, #[]⟩) (kRR : PySem.W.KeysLit w.params esR.toList) (r_add : PySem.W.nsIn K RR "add" = some (some (.ref (He.ga K "_add")))) (r_sub : PySem.W.nsIn K RR "sub" = some (some (.ref (He.ga K "_sub")))) (r_mul : PySem.W.nsIn K RR "mul" = some (some (.ref (He.ga K "mul_machine")))) (r_and : PySem.W.nsIn K RR "and" = some (some (.ref (He.ga K "and_machine")))) (r_or : PySem.W.nsIn K RR "or" = some (some (.ref (He.ga K "or_machine")))) (r_xor : PySem.W.nsIn K RR "xor" = some (some (.ref (He.ga K "xor_machine")))) (r_shl : PySem.W.nsIn K RR "shl" = some (some (.ref (He.ga K "_shl")))) (r_shr : PySem.W.nsIn K RR "shr" = some (some (.ref (He.ga K "_shr")))) (r_sar : PySem.W.nsIn K RR "sar" = some (some (.ref (He.ga K "_sar")))) (r_slt : PySem.W.nsIn K RR "slt" = some (some (.ref (He.ga K "_slt")))) (r_sltu : PySem.W.nsIn K RR "sltu" = some (some (.ref (He.ga K "_sltu")))) (r_divu : PySem.W.nsIn K RR "divu" = some (some (.ref (He.ga K "divu_machine")))) (r_remu : PySem.W.nsIn K RR "remu" = some (some (.ref (He.ga K "remu_machine")))) (r_addi : PySem.W.nsIn K RR "addi" = some (some (.ref (He.ga K "_add")))) (r_andi : PySem.W.nsIn K RR "andi" = some (some (.ref (He.ga K "and_machine")))) (r_ori : PySem.W.nsIn K RR "ori" = some (some (.ref (He.ga K "or_machine")))) (r_xori : PySem.W.nsIn K RR "xori" = some (some (.ref (He.ga K "xor_machine")))) (r_shli : PySem.W.nsIn K RR "shli" = some (some (.ref (He.ga K "_shl")))) (r_shri : PySem.W.nsIn K RR "shri" = some (some (.ref (He.ga K "_shr")))) (r_sari : PySem.W.nsIn K RR "sari" = some (some (.ref (He.ga K "_sar")))) (r_slti : PySem.W.nsIn K RR "slti" = some (some (.ref (He.ga K "_slt")))) : 
    ∃ fd : FuncData, (∀ (s : Shared) (v : Value), BindsTo s fd ⟨[v], []⟩ [("script", v)]) ∧ ∀ base : Heap, K.In base → base.Ns mainGlobals mg → RunG l.prog w K mg base fa fd "script" (spLaw K) := by
  have F_plain_op : ∃ fd, Fun K "plain_op" "plain_op" s_plain_op (He.ga K "plain_op") fd := c.f 0
  have Z_plain_op : St1 K mg "plain_op" s_plain_op ["op"] := zS1 X G (zGlo (c.q 0 : gloZ "plain_op" K = true)) F_plain_op (fun _ _ _ _ _ _ us hl => match us, hl with | [_], _ => rfl)
  have F_signed : ∃ fd, Fun K "_signed" "_signed" s_signed (He.ga K "_signed") fd := c.f 1
  have Z_signed : St1 K mg "_signed" s_signed ["word"] := zS1 X G (zGlo (c.q 1 : gloZ "_signed" K = true)) F_signed (fun _ _ _ _ _ _ us hl => match us, hl with | [_], _ => rfl)
  have F_add : ∃ fd, Fun K "_add" "_add" s_add (He.ga K "_add") fd := c.f 2
  have Zf_add : StF K "_add" s_add ["x", "y"] (He.ga K "_add") := zSF F_add (fun _ _ _ _ _ _ us hl => match us, hl with | [_, _], _ => rfl)
  have Z_add : St1 K mg "_add" s_add ["x", "y"] := zS1 X G (zGlo (c.q 2 : gloZ "_add" K = true)) F_add (fun _ _ _ _ _ _ us hl => match us, hl with | [_, _], _ => rfl)
  have F_sub : ∃ fd, Fun K "_sub" "_sub" s_sub (He.ga K "_sub") fd := c.f 3
  have Zf_sub : StF K "_sub" s_sub ["x", "y"] (He.ga K "_sub") := zSF F_sub (fun _ _ _ _ _ _ us hl => match us, hl with | [_, _], _ => rfl)
  have Z_sub : St1 K mg "_sub" s_sub ["x", "y"] := zS1 X G (zGlo (c.q 3 : gloZ "_sub" K = true)) F_sub (fun _ _ _ _ _ _ us hl => match us, hl with | [_, _], _ => rfl)
  have F_mul : ∃ fd, Fun K "_mul" "_mul" s_mul (He.ga K "_mul") fd := c.f 4
  have Zf_mul : StF K "_mul" s_mul ["pool", "op", "s", "t"] (He.ga K "_mul") := zSF F_mul (fun _ _ _ _ _ _ us hl => match us, hl with | [_, _, _, _], _ => rfl)
  have Z_mul : St1 K mg "_mul" s_mul ["pool", "op", "s", "t"] := zS1 X G (zGlo (c.q 4 : gloZ "_mul" K = true)) F_mul (fun _ _ _ _ _ _ us hl => match us, hl with | [_, _, _, _], _ => rfl)
  have F_and : ∃ fd, Fun K "_and" "_and" s_and (He.ga K "_and") fd := c.f 5
  have Zf_and : StF K "_and" s_and ["pool", "op", "s", "t"] (He.ga K "_and") := zSF F_and (fun _ _ _ _ _ _ us hl => match us, hl with | [_, _, _, _], _ => rfl)
  have Z_and : St1 K mg "_and" s_and ["pool", "op", "s", "t"] := zS1 X G (zGlo (c.q 5 : gloZ "_and" K = true)) F_and (fun _ _ _ _ _ _ us hl => match us, hl with | [_, _, _, _], _ => rfl)
  have F_or : ∃ fd, Fun K "_or" "_or" s_or (He.ga K "_or") fd := c.f 6
  have Zf_or : StF K "_or" s_or ["pool", "op", "s", "t"] (He.ga K "_or") := zSF F_or (fun _ _ _ _ _ _ us hl => match us, hl with | [_, _, _, _], _ => rfl)
  have Z_or : St1 K mg "_or" s_or ["pool", "op", "s", "t"] := zS1 X G (zGlo (c.q 6 : gloZ "_or" K = true)) F_or (fun _ _ _ _ _ _ us hl => match us, hl with | [_, _, _, _], _ => rfl)
  have F_xor : ∃ fd, Fun K "_xor" "_xor" s_xor (He.ga K "_xor") fd := c.f 7
  have Zf_xor : StF K "_xor" s_xor ["pool", "op", "s", "t"] (He.ga K "_xor") := zSF F_xor (fun _ _ _ _ _ _ us hl => match us, hl with | [_, _, _, _], _ => rfl)
  have Z_xor : St1 K mg "_xor" s_xor ["pool", "op", "s", "t"] := zS1 X G (zGlo (c.q 7 : gloZ "_xor" K = true)) F_xor (fun _ _ _ _ _ _ us hl => match us, hl with | [_, _, _, _], _ => rfl)
  have F_shl : ∃ fd, Fun K "_shl" "_shl" s_shl (He.ga K "_shl") fd := c.f 8
  have Zf_shl : StF K "_shl" s_shl ["x", "y"] (He.ga K "_shl") := zSF F_shl (fun _ _ _ _ _ _ us hl => match us, hl with | [_, _], _ => rfl)
  have Z_shl : St1 K mg "_shl" s_shl ["x", "y"] := zS1 X G (zGlo (c.q 8 : gloZ "_shl" K = true)) F_shl (fun _ _ _ _ _ _ us hl => match us, hl with | [_, _], _ => rfl)
  have F_shr : ∃ fd, Fun K "_shr" "_shr" s_shr (He.ga K "_shr") fd := c.f 9
  have Zf_shr : StF K "_shr" s_shr ["x", "y"] (He.ga K "_shr") := zSF F_shr (fun _ _ _ _ _ _ us hl => match us, hl with | [_, _], _ => rfl)
  have Z_shr : St1 K mg "_shr" s_shr ["x", "y"] := zS1 X G (zGlo (c.q 9 : gloZ "_shr" K = true)) F_shr (fun _ _ _ _ _ _ us hl => match us, hl with | [_, _], _ => rfl)
  have F_sar : ∃ fd, Fun K "_sar" "_sar" s_sar (He.ga K "_sar") fd := c.f 10
  have Zf_sar : StF K "_sar" s_sar ["x", "y"] (He.ga K "_sar") := zSF F_sar (fun _ _ _ _ _ _ us hl => match us, hl with | [_, _], _ => rfl)
  have Z_sar : St1 K mg "_sar" s_sar ["x", "y"] := zS1 X G (zGlo (c.q 10 : gloZ "_sar" K = true)) F_sar (fun _ _ _ _ _ _ us hl => match us, hl with | [_, _], _ => rfl)
  have F_slt : ∃ fd, Fun K "_slt" "_slt" s_slt (He.ga K "_slt") fd := c.f 11
  have Zf_slt : StF K "_slt" s_slt ["x", "y"] (He.ga K "_slt") := zSF F_slt (fun _ _ _ _ _ _ us hl => match us, hl with | [_, _], _ => rfl)
  have Z_slt : St1 K mg "_slt" s_slt ["x", "y"] := zS1 X G (zGlo (c.q 11 : gloZ "_slt" K = true)) F_slt (fun _ _ _ _ _ _ us hl => match us, hl with | [_, _], _ => rfl)
  have F_sltu : ∃ fd, Fun K "_sltu" "_sltu" s_sltu (He.ga K "_sltu") fd := c.f 12
  have Zf_sltu : StF K "_sltu" s_sltu ["x", "y"] (He.ga K "_sltu") := zSF F_sltu (fun _ _ _ _ _ _ us hl => match us, hl with | [_, _], _ => rfl)
  have Z_sltu : St1 K mg "_sltu" s_sltu ["x", "y"] := zS1 X G (zGlo (c.q 12 : gloZ "_sltu" K = true)) F_sltu (fun _ _ _ _ _ _ us hl => match us, hl with | [_, _], _ => rfl)
  have F_divu : ∃ fd, Fun K "_divu" "_divu" s_divu (He.ga K "_divu") fd := c.f 13
  have Zf_divu : StF K "_divu" s_divu ["pool", "op", "s", "t"] (He.ga K "_divu") := zSF F_divu (fun _ _ _ _ _ _ us hl => match us, hl with | [_, _, _, _], _ => rfl)
  have Z_divu : St1 K mg "_divu" s_divu ["pool", "op", "s", "t"] := zS1 X G (zGlo (c.q 13 : gloZ "_divu" K = true)) F_divu (fun _ _ _ _ _ _ us hl => match us, hl with | [_, _, _, _], _ => rfl)
  have F_remu : ∃ fd, Fun K "_remu" "_remu" s_remu (He.ga K "_remu") fd := c.f 14
  have Zf_remu : StF K "_remu" s_remu ["pool", "op", "s", "t"] (He.ga K "_remu") := zSF F_remu (fun _ _ _ _ _ _ us hl => match us, hl with | [_, _, _, _], _ => rfl)
  have Z_remu : St1 K mg "_remu" s_remu ["pool", "op", "s", "t"] := zS1 X G (zGlo (c.q 14 : gloZ "_remu" K = true)) F_remu (fun _ _ _ _ _ _ us hl => match us, hl with | [_, _, _, _], _ => rfl)
  have F_compute : ∃ fd, Fun K "compute" "compute" s_compute (He.ga K "compute") fd := c.f 15
  have Z_compute : St1 K mg "compute" s_compute ["op", "x", "y"] := zS1 X G (zGlo (c.q 15 : gloZ "compute" K = true)) F_compute (fun _ _ _ _ _ _ us hl => match us, hl with | [_, _, _], _ => rfl)
  have F_parts_of_node : ∃ fd, Fun K "parts_of_node" "parts_of_node" s_parts_of_node (He.ga K "parts_of_node") fd := c.f 16
  have Z_parts_of_node : St1 K mg "parts_of_node" s_parts_of_node ["node"] := zS1 X G (zGlo (c.q 16 : gloZ "parts_of_node" K = true)) F_parts_of_node (fun _ _ _ _ _ _ us hl => match us, hl with | [_], _ => rfl)
  have F_and_1 : ∃ fd, Fun K "_and" "_and" s_and_1 (He.ga K "and_machine") fd := c.f 17
  have Zf_and_1 : StF K "_and" s_and_1 ["x", "y"] (He.ga K "and_machine") := zSF F_and_1 (fun _ _ _ _ _ _ us hl => match us, hl with | [_, _], _ => rfl)
  have Za_and_1 : StA K mg "and_machine" "_and" s_and_1 ["x", "y"] := zSA X G (zGlo (c.q 17 : gloZ "and_machine" K = true)) F_and_1 (fun _ _ _ _ _ _ us hl => match us, hl with | [_, _], _ => rfl)
  have F_or_1 : ∃ fd, Fun K "_or" "_or" s_or_1 (He.ga K "or_machine") fd := c.f 18
  have Zf_or_1 : StF K "_or" s_or_1 ["x", "y"] (He.ga K "or_machine") := zSF F_or_1 (fun _ _ _ _ _ _ us hl => match us, hl with | [_, _], _ => rfl)
  have Za_or_1 : StA K mg "or_machine" "_or" s_or_1 ["x", "y"] := zSA X G (zGlo (c.q 18 : gloZ "or_machine" K = true)) F_or_1 (fun _ _ _ _ _ _ us hl => match us, hl with | [_, _], _ => rfl)
  have F_xor_1 : ∃ fd, Fun K "_xor" "_xor" s_xor_1 (He.ga K "xor_machine") fd := c.f 19
  have Zf_xor_1 : StF K "_xor" s_xor_1 ["x", "y"] (He.ga K "xor_machine") := zSF F_xor_1 (fun _ _ _ _ _ _ us hl => match us, hl with | [_, _], _ => rfl)
  have Za_xor_1 : StA K mg "xor_machine" "_xor" s_xor_1 ["x", "y"] := zSA X G (zGlo (c.q 19 : gloZ "xor_machine" K = true)) F_xor_1 (fun _ _ _ _ _ _ us hl => match us, hl with | [_, _], _ => rfl)
  have F_mul_1 : ∃ fd, Fun K "_mul" "_mul" s_mul_1 (He.ga K "mul_machine") fd := c.f 20
  have Zf_mul_1 : StF K "_mul" s_mul_1 ["x", "y"] (He.ga K "mul_machine") := zSF F_mul_1 (fun _ _ _ _ _ _ us hl => match us, hl with | [_, _], _ => rfl)
  have Za_mul_1 : StA K mg "mul_machine" "_mul" s_mul_1 ["x", "y"] := zSA X G (zGlo (c.q 20 : gloZ "mul_machine" K = true)) F_mul_1 (fun _ _ _ _ _ _ us hl => match us, hl with | [_, _], _ => rfl)
  have F_shift : ∃ fd, Fun K "_shift" "_shift" s_shift (He.ga K "_shift") fd := c.f 21
  have Zf_shift : StF K "_shift" s_shift ["pool", "op", "s", "t"] (He.ga K "_shift") := zSF F_shift (fun _ _ _ _ _ _ us hl => match us, hl with | [_, _, _, _], _ => rfl)
  have Z_shift : St1 K mg "_shift" s_shift ["pool", "op", "s", "t"] := zS1 X G (zGlo (c.q 21 : gloZ "_shift" K = true)) F_shift (fun _ _ _ _ _ _ us hl => match us, hl with | [_, _, _, _], _ => rfl)
  have F_less : ∃ fd, Fun K "_less" "_less" s_less (He.ga K "_less") fd := c.f 22
  have Zf_less : StF K "_less" s_less ["pool", "op", "s", "t"] (He.ga K "_less") := zSF F_less (fun _ _ _ _ _ _ us hl => match us, hl with | [_, _, _, _], _ => rfl)
  have Z_less : St1 K mg "_less" s_less ["pool", "op", "s", "t"] := zS1 X G (zGlo (c.q 22 : gloZ "_less" K = true)) F_less (fun _ _ _ _ _ _ us hl => match us, hl with | [_, _, _, _], _ => rfl)
  have F_divu_1 : ∃ fd, Fun K "_divu" "_divu" s_divu_1 (He.ga K "divu_machine") fd := c.f 23
  have Zf_divu_1 : StF K "_divu" s_divu_1 ["x", "y"] (He.ga K "divu_machine") := zSF F_divu_1 (fun _ _ _ _ _ _ us hl => match us, hl with | [_, _], _ => rfl)
  have Za_divu_1 : StA K mg "divu_machine" "_divu" s_divu_1 ["x", "y"] := zSA X G (zGlo (c.q 23 : gloZ "divu_machine" K = true)) F_divu_1 (fun _ _ _ _ _ _ us hl => match us, hl with | [_, _], _ => rfl)
  have F_remu_1 : ∃ fd, Fun K "_remu" "_remu" s_remu_1 (He.ga K "remu_machine") fd := c.f 24
  have Zf_remu_1 : StF K "_remu" s_remu_1 ["x", "y"] (He.ga K "remu_machine") := zSF F_remu_1 (fun _ _ _ _ _ _ us hl => match us, hl with | [_, _], _ => rfl)
  have Za_remu_1 : StA K mg "remu_machine" "_remu" s_remu_1 ["x", "y"] := zSA X G (zGlo (c.q 24 : gloZ "remu_machine" K = true)) F_remu_1 (fun _ _ _ _ _ _ us hl => match us, hl with | [_, _], _ => rfl)
  have F_law_draw : ∃ fd, Fun K "_law_draw" "_law_draw" s_law_draw (He.ga K "_law_draw") fd := c.f 25
  have Z_law_draw : St1 K mg "_law_draw" s_law_draw ["script"] := zS1 X G (zGlo (c.q 25 : gloZ "_law_draw" K = true)) F_law_draw (fun _ _ _ _ _ _ us hl => match us, hl with | [_], _ => rfl)
  have F_law_take : ∃ fd, Fun K "_law_take" "_law_take" s_law_take (He.ga K "_law_take") fd := c.f 26
  have Z_law_take : St1 K mg "_law_take" s_law_take ["draw", "many"] := zS1 X G (zGlo (c.q 26 : gloZ "_law_take" K = true)) F_law_take (fun _ _ _ _ _ _ us hl => match us, hl with | [_, _], _ => rfl)
  have F_law_signed : ∃ fd, Fun K "_law_signed" "_law_signed" s_law_signed (He.ga K "_law_signed") fd := c.f 27
  have Z_law_signed : St1 K mg "_law_signed" s_law_signed ["x"] := zS1 X G (zGlo (c.q 27 : gloZ "_law_signed" K = true)) F_law_signed (fun _ _ _ _ _ _ us hl => match us, hl with | [_], _ => rfl)
  have F_law_compute : ∃ fd, Fun K "_law_compute" "_law_compute" s_law_compute (He.ga K "_law_compute") fd := c.f 28
  have Z_law_compute : St1 K mg "_law_compute" s_law_compute ["op", "x", "y"] := zS1 X G (zGlo (c.q 28 : gloZ "_law_compute" K = true)) F_law_compute (fun _ _ _ _ _ _ us hl => match us, hl with | [_, _, _], _ => rfl)
  have F_law_word : ∃ fd, Fun K "_law_word" "_law_word" s_law_word (He.ga K "_law_word") fd := c.f 29
  have Z_law_word : St1 K mg "_law_word" s_law_word ["draw"] := zS1 X G (zGlo (c.q 29 : gloZ "_law_word" K = true)) F_law_word (fun _ _ _ _ _ _ us hl => match us, hl with | [_], _ => rfl)
  have F_law_part : ∃ fd, Fun K "_law_part" "_law_part" s_law_part (He.ga K "_law_part") fd := c.f 30
  have Z_law_part : St1 K mg "_law_part" s_law_part ["draw", "terms", "words"] := zS1 X G (zGlo (c.q 30 : gloZ "_law_part" K = true)) F_law_part (fun _ _ _ _ _ _ us hl => match us, hl with | [_, _, _], _ => rfl)
  have F_law_lists : ∃ fd, Fun K "_law_lists" "_law_lists" s_law_lists (He.ga K "_law_lists") fd := c.f 31
  have Z_law_lists : St1 K mg "_law_lists" s_law_lists ["draw"] := zS1 X G (zGlo (c.q 31 : gloZ "_law_lists" K = true)) F_law_lists (fun _ _ _ _ _ _ us hl => match us, hl with | [_], _ => rfl)
  have F_law_leaf_value : ∃ fd, Fun K "_law_leaf_value" "_law_leaf_value" s_law_leaf_value (He.ga K "_law_leaf_value") fd := c.f 32
  have Z_law_leaf_value : St1 K mg "_law_leaf_value" s_law_leaf_value ["node", "lists"] := zS1 X G (zGlo (c.q 32 : gloZ "_law_leaf_value" K = true)) F_law_leaf_value (fun _ _ _ _ _ _ us hl => match us, hl with | [_, _], _ => rfl)
  have F_law_sum_right : ∃ fd, Fun K "_law_sum_right" "_law_sum_right" s_law_sum_right (He.ga K "_law_sum_right") fd := c.f 33
  have Z_law_sum_right : St1 K mg "_law_sum_right" s_law_sum_right ["draw", "pool", "leaves"] := zS1 X G (zGlo (c.q 33 : gloZ "_law_sum_right" K = true)) F_law_sum_right (fun _ _ _ _ _ _ us hl => match us, hl with | [_, _, _], _ => rfl)
  have F_law : ∃ fd, Fun K "law" "law" s_law (He.ga K "law") fd := c.f 34
  have a_law := zGlo (c.q 34 : gloZ "law" K = true)
  have Z_law : St1 K mg "law" s_law ["script"] := zS1 X G (zGlo (c.q 34 : gloZ "law" K = true)) F_law (fun _ _ _ _ _ _ us hl => match us, hl with | [_], _ => rfl)
  have aC_Pool := zGlo (c.q 35 : gloZ "Pool" K = true)
  have T_Pool : Ob K (He.ga K "Pool") ["nodes", "numbers"] := ⟨He.cls_ok (c.q 36 : (He.Fa.cls "Pool").ok K = true), fun f hf => by
    simp only [List.mem_cons, List.not_mem_nil, or_false] at hf
    rcases hf with rfl | rfl
    · exact He.noat_ok (c.q 37 : (He.Fa.noat "Pool" "nodes").ok K = true)
    · exact He.noat_ok (c.q 38 : (He.Fa.noat "Pool" "numbers").ok K = true)⟩
  have F_Pool_init : ∃ fd, Fun K "__init__" "Pool.__init__" s_Pool_init (He.ma K (He.ga K "Pool") "__init__") fd := c.f 35
  have Z_Pool : StI K mg "Pool" (He.ga K "Pool") "Pool.__init__" s_Pool_init ["self"] := zSI (PySem.W.mg_of X G aC_Pool) (He.mkr_ok (c.q 39 : (He.Fa.mkr "Pool").ok K = true)) F_Pool_init (fun _ _ _ _ _ _ us hl => match us, hl with | [_], _ => rfl)
  have F_Pool_term : ∃ fd, Fun K "term" "Pool.term" s_Pool_term (He.ma K (He.ga K "Pool") "term") fd := c.f 36
  have M_Pool_term := He.meth_ok (c.q 40 : (He.Fa.meth "Pool" "term").ok K = true)
  have Z_Pool_term : StM K (He.ga K "Pool") "term" "Pool.term" s_Pool_term ["self", "node"] := zSM (meth1 M_Pool_term) (meth2 M_Pool_term) F_Pool_term (fun _ _ _ _ _ _ us hl => match us, hl with | [_, _], _ => rfl)
  have F_Pool_word : ∃ fd, Fun K "word" "Pool.word" s_Pool_word (He.ma K (He.ga K "Pool") "word") fd := c.f 37
  have M_Pool_word := He.meth_ok (c.q 41 : (He.Fa.meth "Pool" "word").ok K = true)
  have Z_Pool_word : StM K (He.ga K "Pool") "word" "Pool.word" s_Pool_word ["self", "w"] := zSM (meth1 M_Pool_word) (meth2 M_Pool_word) F_Pool_word (fun _ _ _ _ _ _ us hl => match us, hl with | [_, _], _ => rfl)
  have F_Pool_node : ∃ fd, Fun K "node" "Pool.node" s_Pool_node (He.ma K (He.ga K "Pool") "node") fd := c.f 38
  have M_Pool_node := He.meth_ok (c.q 42 : (He.Fa.meth "Pool" "node").ok K = true)
  have Z_Pool_node : StM K (He.ga K "Pool") "node" "Pool.node" s_Pool_node ["self", "t"] := zSM (meth1 M_Pool_node) (meth2 M_Pool_node) F_Pool_node (fun _ _ _ _ _ _ us hl => match us, hl with | [_, _], _ => rfl)
  have F_Pool_word_of : ∃ fd, Fun K "word_of" "Pool.word_of" s_Pool_word_of (He.ma K (He.ga K "Pool") "word_of") fd := c.f 39
  have M_Pool_word_of := He.meth_ok (c.q 43 : (He.Fa.meth "Pool" "word_of").ok K = true)
  have Z_Pool_word_of : StM K (He.ga K "Pool") "word_of" "Pool.word_of" s_Pool_word_of ["self", "t"] := zSM (meth1 M_Pool_word_of) (meth2 M_Pool_word_of) F_Pool_word_of (fun _ _ _ _ _ _ us hl => match us, hl with | [_, _], _ => rfl)
  have F_Pool_normal : ∃ fd, Fun K "normal" "Pool.normal" s_Pool_normal (He.ma K (He.ga K "Pool") "normal") fd := c.f 40
  have M_Pool_normal := He.meth_ok (c.q 44 : (He.Fa.meth "Pool" "normal").ok K = true)
  have Z_Pool_normal : StM K (He.ga K "Pool") "normal" "Pool.normal" s_Pool_normal ["self", "op", "s", "t"] := zSM (meth1 M_Pool_normal) (meth2 M_Pool_normal) F_Pool_normal (fun _ _ _ _ _ _ us hl => match us, hl with | [_, _, _, _], _ => rfl)
  have F_Pool_parts_of_operation : ∃ fd, Fun K "parts_of_operation" "Pool.parts_of_operation" s_Pool_parts_of_operation (He.ma K (He.ga K "Pool") "parts_of_operation") fd := c.f 41
  have M_Pool_parts_of_operation := He.meth_ok (c.q 45 : (He.Fa.meth "Pool" "parts_of_operation").ok K = true)
  have Z_Pool_parts_of_operation : StM K (He.ga K "Pool") "parts_of_operation" "Pool.parts_of_operation" s_Pool_parts_of_operation ["self", "op", "s", "t"] := zSM (meth1 M_Pool_parts_of_operation) (meth2 M_Pool_parts_of_operation) F_Pool_parts_of_operation (fun _ _ _ _ _ _ us hl => match us, hl with | [_, _, _, _], _ => rfl)
  have F_Pool_total : ∃ fd, Fun K "total" "Pool.total" s_Pool_total (He.ma K (He.ga K "Pool") "total") fd := c.f 42
  have M_Pool_total := He.meth_ok (c.q 46 : (He.Fa.meth "Pool" "total").ok K = true)
  have Z_Pool_total : StM K (He.ga K "Pool") "total" "Pool.total" s_Pool_total ["self", "base", "parts"] := zSM (meth1 M_Pool_total) (meth2 M_Pool_total) F_Pool_total (fun _ _ _ _ _ _ us hl => match us, hl with | [_, _, _], _ => rfl)
  have F_Pool_linear : ∃ fd, Fun K "linear" "Pool.linear" s_Pool_linear (He.ma K (He.ga K "Pool") "linear") fd := c.f 43
  have M_Pool_linear := He.meth_ok (c.q 47 : (He.Fa.meth "Pool" "linear").ok K = true)
  have Z_Pool_linear : StM K (He.ga K "Pool") "linear" "Pool.linear" s_Pool_linear ["self", "t"] := zSM (meth1 M_Pool_linear) (meth2 M_Pool_linear) F_Pool_linear (fun _ _ _ _ _ _ us hl => match us, hl with | [_, _], _ => rfl)
  have F_Pool_sum_of : ∃ fd, Fun K "sum_of" "Pool.sum_of" s_Pool_sum_of (He.ma K (He.ga K "Pool") "sum_of") fd := c.f 44
  have M_Pool_sum_of := He.meth_ok (c.q 48 : (He.Fa.meth "Pool" "sum_of").ok K = true)
  have Z_Pool_sum_of : StM K (He.ga K "Pool") "sum_of" "Pool.sum_of" s_Pool_sum_of ["self", "base", "pairs"] := zSM (meth1 M_Pool_sum_of) (meth2 M_Pool_sum_of) F_Pool_sum_of (fun _ _ _ _ _ _ us hl => match us, hl with | [_, _, _], _ => rfl)
  have F_Pool_settled : ∃ fd, Fun K "settled" "Pool.settled" s_Pool_settled (He.ma K (He.ga K "Pool") "settled") fd := c.f 45
  have M_Pool_settled := He.meth_ok (c.q 49 : (He.Fa.meth "Pool" "settled").ok K = true)
  have Z_Pool_settled : StM K (He.ga K "Pool") "settled" "Pool.settled" s_Pool_settled ["self", "words", "t"] := zSM (meth1 M_Pool_settled) (meth2 M_Pool_settled) F_Pool_settled (fun _ _ _ _ _ _ us hl => match us, hl with | [_, _, _], _ => rfl)
  have F_Pool_inside : ∃ fd, Fun K "inside" "Pool.inside" s_Pool_inside (He.ma K (He.ga K "Pool") "inside") fd := c.f 46
  have M_Pool_inside := He.meth_ok (c.q 50 : (He.Fa.meth "Pool" "inside").ok K = true)
  have Z_Pool_inside : StM K (He.ga K "Pool") "inside" "Pool.inside" s_Pool_inside ["self", "t", "leaves"] := zSM (meth1 M_Pool_inside) (meth2 M_Pool_inside) F_Pool_inside (fun _ _ _ _ _ _ us hl => match us, hl with | [_, _, _], _ => rfl)
  have F_Pool_made_again : ∃ fd, Fun K "made_again" "Pool.made_again" s_Pool_made_again (He.ma K (He.ga K "Pool") "made_again") fd := c.f 47
  have M_Pool_made_again := He.meth_ok (c.q 51 : (He.Fa.meth "Pool" "made_again").ok K = true)
  have Z_Pool_made_again : StM K (He.ga K "Pool") "made_again" "Pool.made_again" s_Pool_made_again ["self", "number", "done"] := zSM (meth1 M_Pool_made_again) (meth2 M_Pool_made_again) F_Pool_made_again (fun _ _ _ _ _ _ us hl => match us, hl with | [_, _, _], _ => rfl)
  have F_Pool_added_up : ∃ fd, Fun K "added_up" "Pool.added_up" s_Pool_added_up (He.ma K (He.ga K "Pool") "added_up") fd := c.f 48
  have M_Pool_added_up := He.meth_ok (c.q 52 : (He.Fa.meth "Pool" "added_up").ok K = true)
  have Z_Pool_added_up : StM K (He.ga K "Pool") "added_up" "Pool.added_up" s_Pool_added_up ["self", "base", "pairs"] := zSM (meth1 M_Pool_added_up) (meth2 M_Pool_added_up) F_Pool_added_up (fun _ _ _ _ _ _ us hl => match us, hl with | [_, _, _], _ => rfl)
  have F_Pool_value_of : ∃ fd, Fun K "value_of" "Pool.value_of" s_Pool_value_of (He.ma K (He.ga K "Pool") "value_of") fd := c.f 49
  have M_Pool_value_of := He.meth_ok (c.q 53 : (He.Fa.meth "Pool" "value_of").ok K = true)
  have Z_Pool_value_of : StM K (He.ga K "Pool") "value_of" "Pool.value_of" s_Pool_value_of ["self", "t", "registers", "loads", "gets"] := zSM (meth1 M_Pool_value_of) (meth2 M_Pool_value_of) F_Pool_value_of (fun _ _ _ _ _ _ us hl => match us, hl with | [_, _, _, _, _], _ => rfl)
  have g_WORDS_IN_ALL : GV mg "WORDS_IN_ALL" (.int 4294967296) := zInt X G (c.q 54 : (He.Fa.int "WORDS_IN_ALL" 4294967296).ok K = true)
  have g_MASK : GV mg "MASK" (.int 4294967295) := zInt X G (c.q 55 : (He.Fa.int "MASK" 4294967295).ok K = true)
  have g_HALF : GV mg "HALF" (.int 2147483648) := zInt X G (c.q 56 : (He.Fa.int "HALF" 2147483648).ok K = true)
  have g_MOST_TERMS : GV mg "MOST_TERMS" (.int 12) := zInt X G (c.q 57 : (He.Fa.int "MOST_TERMS" 12).ok K = true)
  have b_abs : mg "abs" = none := zFree X G (c.q 58 : (He.Fa.free "abs").ok K = true)
  have b_int : mg "int" = none := zFree X G (c.q 59 : (He.Fa.free "int").ok K = true)
  have b_len : mg "len" = none := zFree X G (c.q 60 : (He.Fa.free "len").ok K = true)
  have b_list : mg "list" = none := zFree X G (c.q 61 : (He.Fa.free "list").ok K = true)
  have b_max : mg "max" = none := zFree X G (c.q 62 : (He.Fa.free "max").ok K = true)
  have b_min : mg "min" = none := zFree X G (c.q 63 : (He.Fa.free "min").ok K = true)
  have b_range : mg "range" = none := zFree X G (c.q 64 : (He.Fa.free "range").ok K = true)
  have b_reversed : mg "reversed" = none := zFree X G (c.q 65 : (He.Fa.free "reversed").ok K = true)
  have b_sorted : mg "sorted" = none := zFree X G (c.q 66 : (He.Fa.free "sorted").ok K = true)
  have b_sum : mg "sum" = none := zFree X G (c.q 67 : (He.Fa.free "sum").ok K = true)
  have b_tuple : mg "tuple" = none := zFree X G (c.q 68 : (He.Fa.free "tuple").ok K = true)
  have e := hfa.symm.trans (PySem.W.mg_of X G a_law)
  cases e
  obtain ⟨fd_law, F_law⟩ := F_law
  obtain ⟨oc_law, od_law, kV_law, dc_law, pm_law, an_law, cd_law, ct_law, sl_law, rfl, l_law, cc_law⟩ := F_law.ex
  refine ⟨PySem.W.fnOf "law" "law" (defArgs s_law) (defBody s_law) (defScope s_law) .none kV_law dc_law pm_law an_law cd_law ct_law, fun s v => .of_eq rfl, fun base _ _ => ?_⟩
  have TM : Mtx K mg := ⟨g_MASK, g_HALF, g_WORDS_IN_ALL⟩
  have g_LEAVES : GV mg "LEAVES" (.ref LV) := ⟨_, PySem.W.mg_of X G aLV, rfl⟩
  have hLV : ∀ H, SqT K H LV [.str "word", .str "in", .str "loose", .str "load", .str "get"] := fun H => .inr ⟨_, itLV, nLV, lLV, rfl, rfl, zLV, vLV⟩
  have gI : GV mg "OPS_OF_IMMEDIATES" (.ref II) := ⟨_, PySem.W.mg_of X G aII, rfl⟩
  have none13 : ∀ op ∈ names13, KGet K w II op none := by
    intro op hp
    simp only [names13, tab13, List.map_cons, List.map_nil, List.mem_cons, List.not_mem_nil, or_false] at hp
    rcases hp with rfl | rfl | rfl | rfl | rfl | rfl | rfl | rfl | rfl | rfl | rfl | rfl | rfl
    · exact ⟨esI, nI, lII, kII, sII, .inl ⟨rfl, i_add⟩⟩
    · exact ⟨esI, nI, lII, kII, sII, .inl ⟨rfl, i_sub⟩⟩
    · exact ⟨esI, nI, lII, kII, sII, .inl ⟨rfl, i_mul⟩⟩
    · exact ⟨esI, nI, lII, kII, sII, .inl ⟨rfl, i_and⟩⟩
    · exact ⟨esI, nI, lII, kII, sII, .inl ⟨rfl, i_or⟩⟩
    · exact ⟨esI, nI, lII, kII, sII, .inl ⟨rfl, i_xor⟩⟩
    · exact ⟨esI, nI, lII, kII, sII, .inl ⟨rfl, i_shl⟩⟩
    · exact ⟨esI, nI, lII, kII, sII, .inl ⟨rfl, i_shr⟩⟩
    · exact ⟨esI, nI, lII, kII, sII, .inl ⟨rfl, i_sar⟩⟩
    · exact ⟨esI, nI, lII, kII, sII, .inl ⟨rfl, i_slt⟩⟩
    · exact ⟨esI, nI, lII, kII, sII, .inl ⟨rfl, i_sltu⟩⟩
    · exact ⟨esI, nI, lII, kII, sII, .inl ⟨rfl, i_divu⟩⟩
    · exact ⟨esI, nI, lII, kII, sII, .inl ⟨rfl, i_remu⟩⟩
  have some8 : ∀ p ∈ tabI, KGet K w II p.1 (some (.str p.2)) := by
    intro p hp
    simp only [tabI, List.mem_cons, List.not_mem_nil, or_false] at hp
    rcases hp with rfl | rfl | rfl | rfl | rfl | rfl | rfl | rfl
    · exact ⟨esI, nI, lII, kII, sII, .inr ⟨_, _, rfl, i_addi, ⟨_, rfl⟩⟩⟩
    · exact ⟨esI, nI, lII, kII, sII, .inr ⟨_, _, rfl, i_andi, ⟨_, rfl⟩⟩⟩
    · exact ⟨esI, nI, lII, kII, sII, .inr ⟨_, _, rfl, i_ori, ⟨_, rfl⟩⟩⟩
    · exact ⟨esI, nI, lII, kII, sII, .inr ⟨_, _, rfl, i_xori, ⟨_, rfl⟩⟩⟩
    · exact ⟨esI, nI, lII, kII, sII, .inr ⟨_, _, rfl, i_shli, ⟨_, rfl⟩⟩⟩
    · exact ⟨esI, nI, lII, kII, sII, .inr ⟨_, _, rfl, i_shri, ⟨_, rfl⟩⟩⟩
    · exact ⟨esI, nI, lII, kII, sII, .inr ⟨_, _, rfl, i_sari, ⟨_, rfl⟩⟩⟩
    · exact ⟨esI, nI, lII, kII, sII, .inr ⟨_, _, rfl, i_slti, ⟨_, rfl⟩⟩⟩
  have c_law_draw : Cd l.prog w K mg base 1 "_law_draw" (spDraw K) := ok_draw b_int b_abs b_len Z_law_draw
  have c_law_take : Cd l.prog w K mg base 1 "_law_take" spTake := ok_take b_int b_abs b_len Z_law_take
  have c_law_word : Cd l.prog w K mg base 2 "_law_word" spWord := ok_law_word c_law_take Z_law_word
  have c_law_part : Cd l.prog w K mg base 2 "_law_part" spPart := ok_law_part b_len b_min c_law_take Z_law_part
  have c_law_lists : Cd l.prog w K mg base 3 "_law_lists" spLists := ok_law_lists b_range c_law_word Z_law_lists
  have c_law_leaf_value : Cd l.prog w K mg base 1 "_law_leaf_value" spLeafV := ok_law_leaf_value Z_law_leaf_value
  have c_law_signed : Cd l.prog w K mg base 1 "_law_signed" spSgn := ok_law_signed Z_law_signed
  have c_law_compute : Cd l.prog w K mg base 2 "_law_compute" spCompL := ok_law_compute b_int c_law_signed Z_law_compute
  have m_Pool_term : Md l.prog w K mg base 1 (He.ga K "Pool") "term" (spTerm l.prog w (He.ga K "Pool")) := ok_Pool_term b_len T_Pool Z_Pool_term
  have m_Pool_word : Md l.prog w K mg base 2 (He.ga K "Pool") "word" (spWordP l.prog w (He.ga K "Pool")) := ok_Pool_word T_Pool m_Pool_term Z_Pool_word
  have gRU : GV mg "RULES" (.ref RU) := ⟨_, PySem.W.mg_of X G aRU, rfl⟩
  have m_Pool_word_of : Md l.prog w K mg base 1 (He.ga K "Pool") "word_of" (spWordOf l.prog w (He.ga K "Pool")) := ok_Pool_word_of T_Pool Z_Pool_word_of
  have none2 : ∀ o : Str, o = "add" ∨ o = "sub" → KGet K w RU o none := by
    rintro o (rfl | rfl)
    · exact ⟨esU, nU, lRU, kRU, sRU, .inl ⟨rfl, u_add⟩⟩
    · exact ⟨esU, nU, lRU, kRU, sRU, .inl ⟨rfl, u_sub⟩⟩
  have rulesG : ∀ p ∈ tabG, ∃ f, KGet K w RU p.1 (some (.ref f)) ∧ Held l.prog w K mg base 4 f (spRl l.prog w (He.ga K "Pool") p.2) := by
    intro p hp
    simp only [tabG, List.mem_cons, List.not_mem_nil, or_false] at hp
    rcases hp with rfl | rfl | rfl | rfl | rfl | rfl | rfl | rfl | rfl | rfl | rfl
    · exact ⟨_, ⟨esU, nU, lRU, kRU, sRU, .inr ⟨_, _, rfl, u_and, rfl⟩⟩, ol_and b_min b_max g_MASK m_Pool_word_of m_Pool_word m_Pool_term T_Pool Zf_and⟩
    · exact ⟨_, ⟨esU, nU, lRU, kRU, sRU, .inr ⟨_, _, rfl, u_or, rfl⟩⟩, ol_or b_min b_max g_MASK m_Pool_word_of m_Pool_word m_Pool_term T_Pool Zf_or⟩
    · exact ⟨_, ⟨esU, nU, lRU, kRU, sRU, .inr ⟨_, _, rfl, u_xor, rfl⟩⟩, ol_xor b_min b_max m_Pool_word_of m_Pool_word m_Pool_term T_Pool Zf_xor⟩
    · exact ⟨_, ⟨esU, nU, lRU, kRU, sRU, .inr ⟨_, _, rfl, u_mul, rfl⟩⟩, ol_mul b_min b_max m_Pool_word_of m_Pool_word m_Pool_term T_Pool Zf_mul⟩
    · exact ⟨_, ⟨esU, nU, lRU, kRU, sRU, .inr ⟨_, _, rfl, u_shl, rfl⟩⟩, ol_shift m_Pool_word_of m_Pool_word m_Pool_term T_Pool Zf_shift⟩
    · exact ⟨_, ⟨esU, nU, lRU, kRU, sRU, .inr ⟨_, _, rfl, u_shr, rfl⟩⟩, ol_shift m_Pool_word_of m_Pool_word m_Pool_term T_Pool Zf_shift⟩
    · exact ⟨_, ⟨esU, nU, lRU, kRU, sRU, .inr ⟨_, _, rfl, u_sar, rfl⟩⟩, ol_shift m_Pool_word_of m_Pool_word m_Pool_term T_Pool Zf_shift⟩
    · exact ⟨_, ⟨esU, nU, lRU, kRU, sRU, .inr ⟨_, _, rfl, u_slt, rfl⟩⟩, ol_less m_Pool_word_of m_Pool_word m_Pool_term T_Pool Zf_less⟩
    · exact ⟨_, ⟨esU, nU, lRU, kRU, sRU, .inr ⟨_, _, rfl, u_sltu, rfl⟩⟩, ol_less m_Pool_word_of m_Pool_word m_Pool_term T_Pool Zf_less⟩
    · exact ⟨_, ⟨esU, nU, lRU, kRU, sRU, .inr ⟨_, _, rfl, u_divu, rfl⟩⟩, ol_divu m_Pool_word_of m_Pool_word m_Pool_term T_Pool Zf_divu⟩
    · exact ⟨_, ⟨esU, nU, lRU, kRU, sRU, .inr ⟨_, _, rfl, u_remu, rfl⟩⟩, ol_remu m_Pool_word_of m_Pool_word m_Pool_term T_Pool Zf_remu⟩
  have c_plain_op : Cd l.prog w K mg base 1 "plain_op" spPlain := ok_plain_op gI none13 some8 Z_plain_op
  have gR : GV mg "RESULTS" (.ref RR) := ⟨_, PySem.W.mg_of X G aRR, rfl⟩
  have HdR : ∀ {f : Addr} {g : Int → Int → Int} {k : Str}, Held l.prog w K mg base 2 f (spOp g) → PySem.W.nsIn K RR k = some (some (.ref f)) → ∃ f, KDct K w RR k (.ref f) ∧ Held l.prog w K mg base 2 f (spOp g) := fun c r => ⟨_, ⟨esR, nR, _, lRR, kRR, r, rfl⟩, c⟩
  have c_signed : Cd l.prog w K mg base 1 "_signed" spSgn := ok_signed TM Z_signed
  have rows : ∀ p ∈ tab13 ++ tab8, ∃ f, KDct K w RR p.1 (.ref f) ∧ Held l.prog w K mg base 2 f (spOp p.2) := by
    intro p hp
    simp only [tab13, tab8, List.cons_append, List.nil_append, List.mem_cons, List.not_mem_nil, or_false] at hp
    rcases hp with rfl | rfl | rfl | rfl | rfl | rfl | rfl | rfl | rfl | rfl | rfl | rfl | rfl | rfl | rfl | rfl | rfl | rfl | rfl | rfl | rfl
    · exact HdR (om_add TM Zf_add) r_add
    · exact HdR (om_sub TM Zf_sub) r_sub
    · exact HdR (om_mul TM Zf_mul_1) r_mul
    · exact HdR (om_and Zf_and_1) r_and
    · exact HdR (om_or Zf_or_1) r_or
    · exact HdR (om_xor Zf_xor_1) r_xor
    · exact HdR (om_shl TM Zf_shl) r_shl
    · exact HdR (om_shr Zf_shr) r_shr
    · exact HdR (om_sar TM c_signed Zf_sar) r_sar
    · exact HdR (om_slt c_signed Zf_slt) r_slt
    · exact HdR (om_sltu Zf_sltu) r_sltu
    · exact HdR (om_divu TM Zf_divu_1) r_divu
    · exact HdR (om_remu Zf_remu_1) r_remu
    · exact HdR (om_add TM Zf_add) r_addi
    · exact HdR (om_and Zf_and_1) r_andi
    · exact HdR (om_or Zf_or_1) r_ori
    · exact HdR (om_xor Zf_xor_1) r_xori
    · exact HdR (om_shl TM Zf_shl) r_shli
    · exact HdR (om_shr Zf_shr) r_shri
    · exact HdR (om_sar TM c_signed Zf_sar) r_sari
    · exact HdR (om_slt c_signed Zf_slt) r_slti
  have c_compute : Cd l.prog w K mg base 3 "compute" spComp := ok_compute gR rows Z_compute
  have m_Pool_parts_of_operation : Md l.prog w K mg base 2 (He.ga K "Pool") "parts_of_operation" (spParts l.prog w (He.ga K "Pool")) := ok_Pool_parts_of_operation g_MASK T_Pool m_Pool_word_of Z_Pool_parts_of_operation
  have m_Pool_linear : Md l.prog w K mg base 1 (He.ga K "Pool") "linear" (spLinear l.prog w (He.ga K "Pool")) := ok_Pool_linear T_Pool Z_Pool_linear
  have m_Pool_sum_of : Md l.prog w K mg base 3 (He.ga K "Pool") "sum_of" (spSumR l.prog w (He.ga K "Pool")) := ok_Pool_sum_of b_len T_Pool m_Pool_word m_Pool_term Z_Pool_sum_of
  have m_Pool_total : Md l.prog w K mg base 4 (He.ga K "Pool") "total" (spTotal l.prog w (He.ga K "Pool")) := ok_Pool_total b_sorted b_tuple b_len g_MASK g_MOST_TERMS T_Pool m_Pool_linear m_Pool_sum_of Z_Pool_total
  have m_Pool_normal : Md l.prog w K mg base 5 (He.ga K "Pool") "normal" (spNormal l.prog w (He.ga K "Pool")) := ok_Pool_normal gRU none2 rulesG c_plain_op c_compute m_Pool_word_of m_Pool_word m_Pool_parts_of_operation m_Pool_total m_Pool_term T_Pool Z_Pool_normal
  have c_law_sum_right : Cd l.prog w K mg base 6 "_law_sum_right" (spSumRight l.prog w (He.ga K "Pool")) := ok_law_sum_right b_range b_len b_reversed c_law_take c_law_word T_Pool m_Pool_word m_Pool_normal Z_law_sum_right
  have k_Pool : Mkr l.prog w K mg base 1 "Pool" (He.ga K "Pool") (spInitP l.prog w (He.ga K "Pool")) := ok_Pool T_Pool Z_Pool
  have m_Pool_node : Md l.prog w K mg base 1 (He.ga K "Pool") "node" (spNode l.prog w (He.ga K "Pool")) := ok_Pool_node T_Pool Z_Pool_node
  have c_parts_of_node : Cd l.prog w K mg base 1 "parts_of_node" (spPartsN K) := ok_parts_of_node g_LEAVES hLV Z_parts_of_node
  have m_Pool_inside : Md l.prog w K mg base 2 (He.ga K "Pool") "inside" (spInside l.prog w (He.ga K "Pool")) := ok_Pool_inside b_sorted c_parts_of_node T_Pool Z_Pool_inside
  have m_Pool_value_of : Md l.prog w K mg base 4 (He.ga K "Pool") "value_of" (spValueOf l.prog w (He.ga K "Pool")) := ok_Pool_value_of b_sum g_MASK c_compute T_Pool m_Pool_inside Z_Pool_value_of
  exact ok_law b_len b_range b_list c_law_draw c_law_take c_law_word c_law_part c_law_lists c_law_leaf_value c_law_compute c_law_sum_right T_Pool k_Pool m_Pool_term m_Pool_word m_Pool_node m_Pool_normal m_Pool_value_of F_law
theorem all_fin {l : PySem.W.OpenLaw} {w : World} {K : PySem.W.Frag} {h : Heap} {mg : Str → Option Value} {fa : Addr} (X : K.In h) (G : h.Ns mainGlobals mg) (hfa : mg "law" = some (.ref fa)) (c : SaysZ cks fns tabs w K) :
    ∃ fd : FuncData, (∀ (s : Shared) (v : Value), BindsTo s fd ⟨[v], []⟩ [("script", v)]) ∧ ∀ base : Heap, K.In base → base.Ns mainGlobals mg → RunG l.prog w K mg base fa fd "script" (spLaw K) := by
  obtain ⟨itLV, nLV, slLV, lLV, zLV, vLV⟩ := zTup (show tupZ K (He.ga K "LEAVES") [.str "word", .str "in", .str "loose", .str "load", .str "get"] = true from c.q (f := fun K => tupZ K (He.ga K "LEAVES") (([.str "word", .str "in", .str "loose", .str "load", .str "get"] : List V))) 69)
  obtain ⟨esI, nI, lII, kII, sII⟩ := c.t 0 (a := fun K => (He.ga K "OPS_OF_IMMEDIATES"))
  obtain ⟨esU, nU, lRU, kRU, sRU⟩ := c.t 1 (a := fun K => (He.ga K "RULES"))
  obtain ⟨esR, nR, lRR, kRR, sRR⟩ := c.t 2 (a := fun K => (He.ga K "RESULTS"))
  obtain ⟨_, i_addi⟩ := zStr (c.q 72 : strZ K (He.ga K "OPS_OF_IMMEDIATES") "addi" "add" = true)
  obtain ⟨_, i_andi⟩ := zStr (c.q 73 : strZ K (He.ga K "OPS_OF_IMMEDIATES") "andi" "and" = true)
  obtain ⟨_, i_ori⟩ := zStr (c.q 74 : strZ K (He.ga K "OPS_OF_IMMEDIATES") "ori" "or" = true)
  obtain ⟨_, i_xori⟩ := zStr (c.q 75 : strZ K (He.ga K "OPS_OF_IMMEDIATES") "xori" "xor" = true)
  obtain ⟨_, i_shli⟩ := zStr (c.q 76 : strZ K (He.ga K "OPS_OF_IMMEDIATES") "shli" "shl" = true)
  obtain ⟨_, i_shri⟩ := zStr (c.q 77 : strZ K (He.ga K "OPS_OF_IMMEDIATES") "shri" "shr" = true)
  obtain ⟨_, i_sari⟩ := zStr (c.q 78 : strZ K (He.ga K "OPS_OF_IMMEDIATES") "sari" "sar" = true)
  obtain ⟨_, i_slti⟩ := zStr (c.q 79 : strZ K (He.ga K "OPS_OF_IMMEDIATES") "slti" "slt" = true)
  exact all_mk X G hfa c (zGlo (c.q 70 : gloZ "LEAVES" K = true)) lLV zLV vLV (zGlo (c.q 71 : gloZ "OPS_OF_IMMEDIATES" K = true)) lII kII sII i_addi i_andi i_ori i_xori i_shli i_shri i_sari i_slti (zNs (c.q 80 : nsZ K (He.ga K "OPS_OF_IMMEDIATES") "add" none = true)) (zNs (c.q 81 : nsZ K (He.ga K "OPS_OF_IMMEDIATES") "sub" none = true)) (zNs (c.q 82 : nsZ K (He.ga K "OPS_OF_IMMEDIATES") "mul" none = true)) (zNs (c.q 83 : nsZ K (He.ga K "OPS_OF_IMMEDIATES") "and" none = true)) (zNs (c.q 84 : nsZ K (He.ga K "OPS_OF_IMMEDIATES") "or" none = true)) (zNs (c.q 85 : nsZ K (He.ga K "OPS_OF_IMMEDIATES") "xor" none = true)) (zNs (c.q 86 : nsZ K (He.ga K "OPS_OF_IMMEDIATES") "shl" none = true)) (zNs (c.q 87 : nsZ K (He.ga K "OPS_OF_IMMEDIATES") "shr" none = true)) (zNs (c.q 88 : nsZ K (He.ga K "OPS_OF_IMMEDIATES") "sar" none = true)) (zNs (c.q 89 : nsZ K (He.ga K "OPS_OF_IMMEDIATES") "slt" none = true)) (zNs (c.q 90 : nsZ K (He.ga K "OPS_OF_IMMEDIATES") "sltu" none = true)) (zNs (c.q 91 : nsZ K (He.ga K "OPS_OF_IMMEDIATES") "divu" none = true)) (zNs (c.q 92 : nsZ K (He.ga K "OPS_OF_IMMEDIATES") "remu" none = true)) (zGlo (c.q 93 : gloZ "RULES" K = true)) lRU kRU sRU (zNs (c.q 94 : nsZ K (He.ga K "RULES") "add" none = true)) (zNs (c.q 95 : nsZ K (He.ga K "RULES") "sub" none = true)) (zNs (c.q 96 : nsZ K (He.ga K "RULES") "mul" (some (.ref (He.ga K "_mul"))) = true)) (zNs (c.q 97 : nsZ K (He.ga K "RULES") "and" (some (.ref (He.ga K "_and"))) = true)) (zNs (c.q 98 : nsZ K (He.ga K "RULES") "or" (some (.ref (He.ga K "_or"))) = true)) (zNs (c.q 99 : nsZ K (He.ga K "RULES") "xor" (some (.ref (He.ga K "_xor"))) = true)) (zNs (c.q 100 : nsZ K (He.ga K "RULES") "shl" (some (.ref (He.ga K "_shift"))) = true)) (zNs (c.q 101 : nsZ K (He.ga K "RULES") "shr" (some (.ref (He.ga K "_shift"))) = true)) (zNs (c.q 102 : nsZ K (He.ga K "RULES") "sar" (some (.ref (He.ga K "_shift"))) = true)) (zNs (c.q 103 : nsZ K (He.ga K "RULES") "slt" (some (.ref (He.ga K "_less"))) = true)) (zNs (c.q 104 : nsZ K (He.ga K "RULES") "sltu" (some (.ref (He.ga K "_less"))) = true)) (zNs (c.q 105 : nsZ K (He.ga K "RULES") "divu" (some (.ref (He.ga K "_divu"))) = true)) (zNs (c.q 106 : nsZ K (He.ga K "RULES") "remu" (some (.ref (He.ga K "_remu"))) = true)) (zGlo (c.q 107 : gloZ "RESULTS" K = true)) lRR kRR (zNs (c.q 108 : nsZ K (He.ga K "RESULTS") "add" (some (.ref (He.ga K "_add"))) = true)) (zNs (c.q 109 : nsZ K (He.ga K "RESULTS") "sub" (some (.ref (He.ga K "_sub"))) = true)) (zNs (c.q 110 : nsZ K (He.ga K "RESULTS") "mul" (some (.ref (He.ga K "mul_machine"))) = true)) (zNs (c.q 111 : nsZ K (He.ga K "RESULTS") "and" (some (.ref (He.ga K "and_machine"))) = true)) (zNs (c.q 112 : nsZ K (He.ga K "RESULTS") "or" (some (.ref (He.ga K "or_machine"))) = true)) (zNs (c.q 113 : nsZ K (He.ga K "RESULTS") "xor" (some (.ref (He.ga K "xor_machine"))) = true)) (zNs (c.q 114 : nsZ K (He.ga K "RESULTS") "shl" (some (.ref (He.ga K "_shl"))) = true)) (zNs (c.q 115 : nsZ K (He.ga K "RESULTS") "shr" (some (.ref (He.ga K "_shr"))) = true)) (zNs (c.q 116 : nsZ K (He.ga K "RESULTS") "sar" (some (.ref (He.ga K "_sar"))) = true)) (zNs (c.q 117 : nsZ K (He.ga K "RESULTS") "slt" (some (.ref (He.ga K "_slt"))) = true)) (zNs (c.q 118 : nsZ K (He.ga K "RESULTS") "sltu" (some (.ref (He.ga K "_sltu"))) = true)) (zNs (c.q 119 : nsZ K (He.ga K "RESULTS") "divu" (some (.ref (He.ga K "divu_machine"))) = true)) (zNs (c.q 120 : nsZ K (He.ga K "RESULTS") "remu" (some (.ref (He.ga K "remu_machine"))) = true)) (zNs (c.q 121 : nsZ K (He.ga K "RESULTS") "addi" (some (.ref (He.ga K "_add"))) = true)) (zNs (c.q 122 : nsZ K (He.ga K "RESULTS") "andi" (some (.ref (He.ga K "and_machine"))) = true)) (zNs (c.q 123 : nsZ K (He.ga K "RESULTS") "ori" (some (.ref (He.ga K "or_machine"))) = true)) (zNs (c.q 124 : nsZ K (He.ga K "RESULTS") "xori" (some (.ref (He.ga K "xor_machine"))) = true)) (zNs (c.q 125 : nsZ K (He.ga K "RESULTS") "shli" (some (.ref (He.ga K "_shl"))) = true)) (zNs (c.q 126 : nsZ K (He.ga K "RESULTS") "shri" (some (.ref (He.ga K "_shr"))) = true)) (zNs (c.q 127 : nsZ K (He.ga K "RESULTS") "sari" (some (.ref (He.ga K "_sar"))) = true)) (zNs (c.q 128 : nsZ K (He.ga K "RESULTS") "slti" (some (.ref (He.ga K "_slt"))) = true))
end K30
open PySem PySem.W PySem.Calls PyProof.Rows
set_option maxRecDepth 100000 in
set_option maxHeartbeats 0 in
theorem PySem.Challenge.cw_restitch_k30_terms_are_values_holds : PySem.Challenge.rw_restitch_k30_terms_are_values.Holds := by
  w_on; o_law
  refine HandSHeadRun.head_any (r := OpenLaw.row PySem.Challenge.rw_restitch_k30_terms_are_values) (q := view (OpenLaw.row PySem.Challenge.rw_restitch_k30_terms_are_values).prog [61]) (H := K30.hk) (ob := K30.ob) (M := 12000) (loose := K30.topN) (d := HandSHeadRun.topDef (OpenLaw.row PySem.Challenge.rw_restitch_k30_terms_are_values).prog 61) (kwd := []) K30.ob_eq
    (by kernel_rfl) (fun s => by kernel_rfl) K30.run (by kernel_rfl) (by kernel_rfl) (by kernel_rfl) (by rfl) (by first | assumption | decide +kernel) (by decide +kernel) ⟨rfl, rfl, rfl, rfl, rfl, by decide +kernel⟩ ?hw ?hc
  case hw => w_witness2
  case hc =>
    refine Co.walk_ofZ (l := PySem.Challenge.rw_restitch_k30_terms_are_values) (n := 63) (x := "script") rfl (by decide) (by kernel_rfl) ?F
    intro w mg fa h Y G hmg0
    obtain ⟨K, KX, c⟩ := Y
    have hmg : mg ("law" : PySem.Str) = some (.ref fa) := by
      have e : (HandSHeadRun.topDef (OpenLaw.row PySem.Challenge.rw_restitch_k30_terms_are_values).prog 61).name = ("law" : PySem.Str) := by kernel_rfl
      rw [← e]
      exact hmg0
    obtain ⟨fd, hb, hF⟩ := K30.all_fin (l := PySem.Challenge.rw_restitch_k30_terms_are_values) (w := w) KX G hmg c
    exact ⟨K, fd, K30.spLaw K, KX, hb, fun H a ns hl _ hS => ⟨a, ns, rfl, hS, hl, fun _ => rfl⟩, hF⟩


