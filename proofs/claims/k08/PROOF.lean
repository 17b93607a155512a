import PyProof.Rows.All
import Wide.All
import OpenK.AllK
import Wide.FinOn
import HandS.ForMost
import HandS.Wide
import HandS.Style
import HandS.Small
import HandS.TupAny
import HandS.IsInst
import HandS.CallLocal
import HandS.Evl
import HandS.More
import HandS.WrittenGet
import HandS.SetBool
import HandS.Strs
import HandS.Zip
import HandS.Star
import KE.GoesZip
import KE.GoesMore
import PyProof.EnumMake
import PyProof.WalksEnum
import PyProof.ReprRoads
import PyProof.ReprLen
import HandS.SetFor
import KE.DataMinMax
import PyProof.Rows.SortShellAny
import HandS.WideBits
import HandS.TupMul
import HandS.GenYield
import HandS.GenCall
import HandS.GenList
import HandS.Defaults
import KE.KxField
import HandS.FStr
import KE.KSortTupG
import HandS.Sort
import HandS.Deep
import HandS.Head0
import HandS.Head1
import HandS.Head2
import HandS.HeadHook1
import HandS.HeadHook2
import HandS.HeadHook3
import KE.KExcSuper
import HandS.ExcOwn
import HandS.WordsExc
import HandS.ForExc
import HandS.Ends
import HandS.StrMore
import KE.IntTextLaws
import HandS.ExcInit
import KE.KDictZip
import HandS.TupLe
import PyProof.FString5
import PySem.Challenge.RW_restitch_k08_linked_parts
set_option Elab.async false
set_option linter.all false
set_option maxRecDepth 100000
set_option maxHeartbeats 4000000
namespace Co
open PySem PySem.Spec PyProof.Rows L2
def rIntQ : List V → Hp → VK → Prop := fun xs H Q => (∃ i, xs = [.int i] ∧ Q (.int i) H) ∨ ∃ k, xs = [.bl k] ∧ Q (.int (if k then 1 else 0)) H
theorem call_intQ {X : Cx} : CallR X (.type "int") rIntQ := call_int1
def rAbsQ : List V → Hp → VK → Prop := fun xs H Q => ∃ i, xs = [.int i] ∧ Q (.int (if i < 0 then -i else i)) H
theorem call_absQ {X : Cx} : CallR X (.builtin "abs") rAbsQ := call_abs
def rLenQ (K : PySem.W.Frag) : List V → Hp → VK → Prop := fun xs H Q => ∃ p ys, xs = [.ref p] ∧ (SqL K H p ys ∨ SqT K H p ys) ∧ Q (.int (ys.length : Int)) H
theorem call_lenQ {X : Cx} : CallR X (.builtin "len") (rLenQ X.K) := call_len_seq
structure Cd (P : Program) (w : World) (K : PySem.W.Frag) (mg : Str → Option Value) (base : Heap) (k : Nat) (x : Str) (sp : Sp) : Prop where
  ex : ∃ (f : Addr) (fd : FuncData) (ps : List Str), FnOk P w K mg base CX0 k f fd ps sp ∧ mg x = some (.ref f) ∧ PySem.W.keepIn K (.ref f) = true ∧ Binds K fd ps []
def GV (mg : Str → Option Value) (x : Str) (v : V) : Prop := ∃ u, mg x = some u ∧ RelV v u
def tC1 (sp : Sp) (t : TA) : TE := fun σ H Q => t σ H fun vs H1 => sp vs H1 Q E0
section
variable {X : Cx} {k j : Nat} {x : Str} {sp : Sp} {p pos : Pos} {e : Expr} {es : List Expr} {t : TA}
theorem pe_gv {v : V} (hg : Gl X x) (h : GV X.mg x v) (hd : (x == ("__debug__" : Str)) = false := by decide) : PE X (.Name x pos) (tC v) := by
  obtain ⟨u, hm, r⟩ := h
  exact pe_glob hg hm r hd
theorem pe_cd (c : Cd X.prog X.w X.K X.mg X.base k x sp) (hr : Room j X.A) (hk : k ≤ j) (hg : Gl X x) (ha : PA X (e :: es) t)
    (hdb : (x == ("__debug__" : Str)) = false := by decide) (he : starEach (e :: es) X.env = (false, eval e X.env) :: starEach es X.env := by rfl) (hpl : (backTo pos (starEach es X.env)).any (·.1) = false := by rfl) :
    PE X (.Call (.Name x p) (e :: es) [] pos) (tC1 sp t) := by
  obtain ⟨f, fd, ps, F, hm, kp, b⟩ := c.ex
  have z := pe_call (dvs := []) (pos := pos) (p := p) F (hr.mono hk) hg hm kp b .nil pass0 ha hdb he hpl
  refine ⟨fun pins s σ H Q I h => z.run pins s σ H Q I ?_⟩
  show t σ H fun vs H1 => sp (vs ++ []) H1 Q E0
  simp only [List.append_nil]
  exact h
theorem pe_cd0 (c : Cd X.prog X.w X.K X.mg X.base k x sp) (hr : Room j X.A) (hk : k ≤ j) (hg : Gl X x)
    (hdb : (x == ("__debug__" : Str)) = false := by decide) :
    PE X (.Call (.Name x p) [] [] pos) (tC1 sp tNil) := by
  obtain ⟨f, fd, ps, F, hm, kp, b⟩ := c.ex
  exact pe_call0 (dvs := []) (pos := pos) (p := p) F (hr.mono hk) hg hm kp b .nil pass0 hdb
end

/-! ### readings, step by step, from behind -/
def kTup (Q : VK) : List V → Hp → Prop := fun xs H1 => xs.length ≤ sizeLine ∧ ∀ p, H1 p = none → Q (.ref p) (upd H1 p (.tup xs))
def kLst (Q : VK) : List V → Hp → Prop := fun xs H1 => xs.length ≤ sizeLine ∧ ∀ p, H1 p = none → Q (.ref p) (upd H1 p (.lst xs))
def kFor (g : TG) (tb : TS) (D : Ends) (σ : L2.St) : It → Hp → Prop := fun J H1 => ∃ W : Nat → Nat → L2.St → Hp → Prop, (∃ m, W 0 m σ H1) ∧ ∀ i m σ H, W i m σ H →
  (J.stop i H ∧ D.nx σ H) ∨ (J.go i H ∧ ∃ N : L2.St → Hp → Prop, (∀ σ' H', N σ' H' → ∃ m', m' < m ∧ W (i + 1) m' σ' H') ∧ ∀ x H', J.yld i H x H' → g x σ H' fun σ2 H2 => tb { D with nx := N, ct := N, bk := D.nx } σ2 H2)
def kIL (K : PySem.W.Frag) (R : It → Hp → Prop) : V → Hp → Prop := fun x H1 => ∃ a, x = .ref a ∧ (∃ xs, SqL K H1 a xs) ∧ R (Itl K a) H1
def kIT (K : PySem.W.Frag) (R : It → Hp → Prop) : V → Hp → Prop := fun x H1 => ∃ a, x = .ref a ∧ (∃ xs, SqT K H1 a xs) ∧ R (Itt K a) H1
def kR1 (R : It → Hp → Prop) : List V → Hp → Prop := fun vs H1 => ∃ j : Int, vs = [.int j] ∧ -(2 ^ 62) ≤ j ∧ j < 2 ^ 62 ∧ R (Itr 0 j.toNat) H1
def kR2 (R : It → Hp → Prop) : List V → Hp → Prop := fun vs H1 => ∃ i j : Int, vs = [.int i, .int j] ∧ (-(2 ^ 62) ≤ i ∧ i < 2 ^ 62 ∧ -(2 ^ 62) ≤ j ∧ j < 2 ^ 62) ∧ R (Itr i (j - i).toNat) H1
def kLc (g : TG) (tt : TT) (te : TE) (vs : List Nat) (σ : L2.St) (Q : VK) : It → Hp → Prop := fun J H1 => ∀ D, H1 D = none → ∃ W : Nat → Nat → Hp → Prop, (∃ m, W 0 m (upd H1 D (.lst []))) ∧ ∀ i m H, W i m H →
  (J.stop i H ∧ Q (.ref D) H) ∨ (J.go i H ∧ ∃ Nx : Hp → Prop, (∀ H', Nx H' → ∃ m', m' < m ∧ W (i + 1) m' H') ∧ ∀ x H', J.yld i H x H' → g x (wipe σ vs) H' fun σ2 H2 => wipe σ2 vs = wipe σ vs ∧ tt σ2 H2 fun b H3 =>
    if b = true then te σ2 H3 fun y H4 => ∃ acc, H4 D = some (.lst acc) ∧ acc.length < sizeLine ∧ Nx (upd H4 D (.lst (acc ++ [y]))) else Nx H3)
section
variable {σ : L2.St} {H : Hp} {Q : VK} {D : Ends} {ta tb te : TE} {tt tu : TT} {t u : TS} {g : TG} {v x y : V} {i j : Int} {n : Nat} {E : XK}
theorem w_var (h : σ[n]? = some (some v)) (q : Q v H) : tVar n σ H Q := ⟨v, h, q⟩
theorem w_c (q : Q v H) : tC v σ H Q := q
theorem w_op {r : R2} (q : ta σ H fun x H1 => tb σ H1 fun y H2 => r x y H2 Q) : tOp r ta tb σ H Q := q
theorem w_un {r : V → Hp → VK → Prop} (q : ta σ H fun x H1 => r x H1 Q) : tUn r ta σ H Q := q
theorem w_I0 {f : Int → Int → V} (q : Q (f i j) H) : rI0 f (.int i) (.int j) H Q := ⟨i, j, rfl, rfl, q⟩
theorem w_I {C : Int → Int → Prop} {f : Int → Int → V} (c : C i j) (q : Q (f i j) H) : rI C f (.int i) (.int j) H Q := ⟨i, j, rfl, rfl, c, q⟩
theorem w_U {f : Int → V} (q : Q (f i) H) : rU f (.int i) H Q := ⟨i, rfl, q⟩
theorem w_eq (h : scal x y = true) (q : Q (.bl (decide (x = y))) H) : rEq x y H Q := ⟨h, q⟩
theorem w_ne (h : scal x y = true) (q : Q (.bl (!decide (x = y))) H) : rNe x y H Q := ⟨h, q⟩
theorem w_eqI (q : Q (.bl (decide (i = j))) H) : rEq (.int i) (.int j) H Q := ⟨rfl, by
  have e : (decide (V.int i = V.int j)) = decide (i = j) := by
    by_cases h : i = j
    · subst h; simp
    · rw [decide_eq_false h, decide_eq_false (fun z => h (V.int.inj z))]
  rw [e]; exact q⟩
theorem w_neI (q : Q (.bl (!decide (i = j))) H) : rNe (.int i) (.int j) H Q := ⟨rfl, by
  have e : (decide (V.int i = V.int j)) = decide (i = j) := by
    by_cases h : i = j
    · subst h; simp
    · rw [decide_eq_false h, decide_eq_false (fun z => h (V.int.inj z))]
  rw [e]; exact q⟩
theorem w_test {Q : Bool → Hp → Prop} (q : ta σ H fun x H' => ∃ k, x = .bl k ∧ Q k H') : tTest ta σ H Q := q
theorem w_B {Q : Bool → Hp → Prop} (q : ta σ H fun x H' => ∃ k, x = .bl k ∧ Q k H') : tB ta σ H Q := q
theorem w_bl {b : Bool} {Q : Bool → Prop} (q : Q b) : ∃ k, V.bl b = .bl k ∧ Q k := ⟨b, rfl, q⟩
theorem w_if (q : tt σ H fun c H1 => if c = true then ta σ H1 Q else tb σ H1 Q) : tIf tt ta tb σ H Q := q
theorem w_andT {Q : Bool → Hp → Prop} (q : tt σ H fun c H1 => if c = true then tu σ H1 Q else Q false H1) : tAnd tt tu σ H Q := q
theorem w_orT {Q : Bool → Hp → Prop} (q : tt σ H fun c H1 => if c = true then Q true H1 else tu σ H1 Q) : tOr tt tu σ H Q := q
theorem w_notT {Q : Bool → Hp → Prop} (q : tt σ H fun c H1 => Q (!c) H1) : tNot tt σ H Q := q
theorem w_andV (q : ta σ H fun x H1 => ∃ c, x = .bl c ∧ if c = true then tb σ H1 Q else Q (.bl false) H1) : tAndV ta tb σ H Q := q
theorem w_orV (q : ta σ H fun x H1 => ∃ c, x = .bl c ∧ if c = true then Q (.bl true) H1 else tb σ H1 Q) : tOrV ta tb σ H Q := q
theorem w_notV (q : ta σ H fun x H1 => ∃ c, x = .bl c ∧ Q (.bl (!c)) H1) : tNotV ta σ H Q := q
theorem w_chain {r r' : R2} {tc : TE} (q : ta σ H fun x H1 => tb σ H1 fun y H2 => r x y H2 fun z H3 => ∃ k, z = .bl k ∧ if k = true then tc σ H3 fun c H4 => r' y c H4 Q else Q (.bl false) H3) : tChain r r' ta tb tc σ H Q := q
theorem w_seq (q : t { D with nx := u D } σ H) : tSeq t u D σ H := q
theorem w_next (q : D.nx σ H) : tNext D σ H := q
theorem w_ret (q : te σ H D.rt) : tRet te D σ H := q
theorem w_retN (q : D.rt .non H) : tRetN D σ H := q
theorem w_ifS (q : tt σ H fun b H1 => if b = true then t D σ H1 else u D σ H1) : tIfS tt t u D σ H := q
theorem w_asg (q : te σ H fun x H1 => g x σ H1 D.nx) : tAsg te g D σ H := q
theorem w_name {Q : L2.St → Hp → Prop} (q : Q (σ.set n (some v)) H) : gName n v σ H Q := q
theorem w_drop (q : te σ H fun _ H1 => D.nx σ H1) : tDrop te D σ H := q
theorem w_nil {Q : List V → Hp → Prop} (q : Q [] H) : tNil σ H Q := q
theorem w_cons {ta : TE} {tr : TA} {Q : List V → Hp → Prop} (q : ta σ H fun x H1 => tr σ H1 fun xs H2 => Q (x :: xs) H2) : tCons ta tr σ H Q := q
theorem w_call {sp : Sp} {t : TA} (q : t σ H fun vs H1 => sp vs H1 Q E0) : tC1 sp t σ H Q := q
theorem w_cb {r : List V → Hp → VK → Prop} {t : TA} (q : t σ H fun vs H1 => r vs H1 Q) : tCB r t σ H Q := q
theorem w_dec {c : Prop} [Decidable c] {A B : Prop} (h1 : c → A) (h2 : ¬ c → B) : if decide c = true then A else B := by
  by_cases h : c
  · rw [if_pos (decide_eq_true h)]; exact h1 h
  · rw [if_neg (by rw [decide_eq_false h]; exact Bool.false_ne_true)]; exact h2 h
theorem w_ndec {c : Prop} [Decidable c] {A B : Prop} (h1 : ¬ c → A) (h2 : c → B) : if (!decide c) = true then A else B := by
  by_cases h : c
  · rw [if_neg (by rw [decide_eq_true h]; decide)]; exact h2 h
  · rw [if_pos (by rw [decide_eq_false h]; decide)]; exact h1 h
theorem w_itT {A B : Prop} (h : A) : if true = true then A else B := iteT h
theorem w_itF {A B : Prop} (h : B) : if false = true then A else B := iteF h
theorem w_bool {b : Bool} {A B : Prop} (h1 : b = true → A) (h2 : b = false → B) : if b = true then A else B := by
  cases b
  · exact iteF (h2 rfl)
  · exact iteT (h1 rfl)
theorem w_tup {ta : TA} (q : ta σ H (kTup Q)) : tTup ta σ H Q := q
theorem w_lst {ta : TA} (q : ta σ H (kLst Q)) : tLst ta σ H Q := q
theorem w_kTup {xs : List V} (h : xs.length ≤ sizeLine) (q : ∀ p H', H p = none → Same H H' → H' p = some (.tup xs) → Q (.ref p) H') : kTup Q xs H := ⟨h, fun p np => q p _ np (fun b x e => by rw [upd_ne (ne_of_none e np)]; exact e) upd_same⟩
theorem w_kLst {xs : List V} (h : xs.length ≤ sizeLine) (q : ∀ p H', H p = none → Same H H' → H' p = some (.lst xs) → Q (.ref p) H') : kLst Q xs H := ⟨h, fun p np => q p _ np (fun b x e => by rw [upd_ne (ne_of_none e np)]; exact e) upd_same⟩
end
section
variable {K : PySem.W.Frag} {σ : L2.St} {H : Hp} {Q : VK} {p : Addr} {xs : List V} {i : Int} {v x : V} {n : Nat}
theorem w_ixL (h : H p = some (.lst xs)) (ha : atI xs i = some v) (q : Q v H) : rIxL K (.ref p) (.int i) H Q := ⟨p, xs, i, v, rfl, rfl, .inl (.inl h), ha, q⟩
theorem w_ixLs (h : SqL K H p xs) (ha : atI xs i = some v) (q : Q v H) : rIxL K (.ref p) (.int i) H Q := ⟨p, xs, i, v, rfl, rfl, h, ha, q⟩
theorem w_ixT (h : H p = some (.tup xs)) (ha : atI xs i = some v) (q : Q v H) : rIxT K (.ref p) (.int i) H Q := ⟨p, xs, i, v, rfl, rfl, .inl (.inl h), ha, q⟩
theorem w_ixTs (h : SqT K H p xs) (ha : atI xs i = some v) (q : Q v H) : rIxT K (.ref p) (.int i) H Q := ⟨p, xs, i, v, rfl, rfl, h, ha, q⟩
theorem w_sub {to ti : TE} {t : TSet} {Q : L2.St → Hp → Prop} (q : to σ H fun o H1 => ti σ H1 fun i H2 => t o i v H2 fun H3 => Q σ H3) : gSub to ti t v σ H Q := q
theorem w_lenL (h : H p = some (.lst xs)) (q : Q (.int (xs.length : Int)) H) : rLenQ K [.ref p] H Q := ⟨p, xs, rfl, .inl (.inl (.inl h)), q⟩
theorem w_lenLs (h : SqL K H p xs) (q : Q (.int (xs.length : Int)) H) : rLenQ K [.ref p] H Q := ⟨p, xs, rfl, .inl h, q⟩
theorem w_lenT (h : H p = some (.tup xs)) (q : Q (.int (xs.length : Int)) H) : rLenQ K [.ref p] H Q := ⟨p, xs, rfl, .inr (.inl (.inl h)), q⟩
theorem w_int1 (q : Q (.int i) H) : rIntQ [.int i] H Q := .inl ⟨i, rfl, q⟩
theorem w_abs (q : Q (.int (if i < 0 then -i else i)) H) : rAbsQ [.int i] H Q := ⟨i, rfl, q⟩
theorem ixN_lit {n : Nat} {j : Nat} (h : j < n) : ixN n (j : Int) = some j := by
  unfold ixN
  rw [if_pos (Int.natCast_nonneg _), if_pos (by omega)]
  simp
theorem atI_of {α : Type} {xs : List α} {i : Int} {v : α} (h0 : 0 ≤ i) (h : xs[i.toNat]? = some v) : atI xs i = some v := by
  have e : ((i.toNat : Nat) : Int) = i := Int.toNat_of_nonneg h0
  have z := atI_nat (j := i.toNat) h
  rw [e] at z
  exact z
end
section
variable {K : PySem.W.Frag} {σ : L2.St} {H : Hp} {D : Ends} {g : TG} {tb : TS} {wi : TI} {tl : TE} {R : It → Hp → Prop}
theorem w_for (q : wi σ H (kFor g tb D σ)) : tFor wi g tb D σ H := q
theorem w_iL (q : tl σ H (kIL K R)) : iList K tl σ H R := q
theorem w_iT (q : tl σ H (kIT K R)) : iTup K tl σ H R := q
theorem w_rng1 {ta : TA} (q : ta σ H (kR1 R)) : iRng1 ta σ H R := q
theorem w_rng2 {ta : TA} (q : ta σ H (kR2 R)) : iRng2 ta σ H R := q
theorem w_kR1 {j : Int} (h0 : -(2 ^ 62) ≤ j) (h1 : j < 2 ^ 62) (q : R (Itr 0 j.toNat) H) : kR1 R [.int j] H := ⟨j, rfl, h0, h1, q⟩
theorem w_forL {a : Addr} (xs : List V) (Pv : Nat → L2.St → Hp → Prop) (hS : SqL K H a xs) (h0 : Pv 0 σ H) (hl : ∀ i σ H, i ≤ xs.length → Pv i σ H → SqL K H a xs)
    (hs : ∀ i x σ H, xs[i]? = some x → Pv i σ H → g x σ H fun σ2 H2 => tb { D with nx := Pv (i + 1), ct := Pv (i + 1), bk := D.nx } σ2 H2) (hd : ∀ σ H, Pv xs.length σ H → D.nx σ H) : kIL K (kFor g tb D σ) (.ref a) H :=
  ⟨a, rfl, ⟨_, hS⟩, for_list (K := K) (a := a) (xs := xs) Pv h0 hl hs hd⟩
theorem w_forT {a : Addr} (xs : List V) (Pv : Nat → L2.St → Hp → Prop) (hS : SqT K H a xs) (h0 : Pv 0 σ H) (hl : ∀ i σ H, i ≤ xs.length → Pv i σ H → SqT K H a xs)
    (hs : ∀ i x σ H, xs[i]? = some x → Pv i σ H → g x σ H fun σ2 H2 => tb { D with nx := Pv (i + 1), ct := Pv (i + 1), bk := D.nx } σ2 H2) (hd : ∀ σ H, Pv xs.length σ H → D.nx σ H) : kIT K (kFor g tb D σ) (.ref a) H :=
  ⟨a, rfl, ⟨_, hS⟩, for_tup (K := K) (a := a) (xs := xs) Pv h0 hl hs hd⟩
theorem w_forR {j : Int} (n : Nat) (Pv : Nat → L2.St → Hp → Prop) (hn : j.toNat = n) (hj : n < 4611686018427387904 ∧ -4611686018427387904 ≤ j) (h0 : Pv 0 σ H)
    (hs : ∀ i σ H, i < n → Pv i σ H → g (.int (i : Int)) σ H fun σ2 H2 => tb { D with nx := Pv (i + 1), ct := Pv (i + 1), bk := D.nx } σ2 H2) (hd : ∀ σ H, Pv n σ H → D.nx σ H) : kR1 (kFor g tb D σ) [.int j] H := by
  refine ⟨j, rfl, by show -4611686018427387904 ≤ j; omega, by show j < 4611686018427387904; omega, ?_⟩
  subst hn
  refine for_range (lo := 0) (n := j.toNat) Pv h0 (fun i σ H hi p => ?_) hd
  rw [Int.zero_add]
  exact hs i σ H hi p
theorem w_yes {Q : Bool → Hp → Prop} (q : Q true H) : tYes σ H Q := q
theorem w_lc {tt : TT} {te : TE} {vs : List Nat} {Q : VK} (q : wi σ H (kLc g tt te vs σ Q)) : tLc wi g tt te vs σ H Q := q
theorem w_lcL {tt : TT} {te : TE} {vs : List Nat} {Q : VK} {a : Addr} (xs : List V) (Pv : Addr → Nat → Hp → Prop) (hS : SqL K H a xs) (h0 : ∀ D, H D = none → Pv D 0 (upd H D (.lst []))) (hl : ∀ D i H, i ≤ xs.length → Pv D i H → SqL K H a xs)
    (hs : ∀ D i x H, xs[i]? = some x → Pv D i H → g x (wipe σ vs) H fun σ2 H2 => wipe σ2 vs = wipe σ vs ∧ tt σ2 H2 fun b H3 =>
      if b = true then te σ2 H3 fun y H4 => ∃ acc, H4 D = some (.lst acc) ∧ acc.length < sizeLine ∧ Pv D (i + 1) (upd H4 D (.lst (acc ++ [y]))) else Pv D (i + 1) H3) (hd : ∀ D H', H D = none → Pv D xs.length H' → Q (.ref D) H') : kIL K (kLc g tt te vs σ Q) (.ref a) H :=
  ⟨a, rfl, ⟨_, hS⟩, fun D nD => lc_list (K := K) (a := a) (xs := xs) (Pv D) (h0 D nD) (hl D) (hs D) (fun H' p => hd D H' nD p)⟩
theorem w_lcT {tt : TT} {te : TE} {vs : List Nat} {Q : VK} {a : Addr} (xs : List V) (Pv : Addr → Nat → Hp → Prop) (hS : SqT K H a xs) (h0 : ∀ D, H D = none → Pv D 0 (upd H D (.lst []))) (hl : ∀ D i H, i ≤ xs.length → Pv D i H → SqT K H a xs)
    (hs : ∀ D i x H, xs[i]? = some x → Pv D i H → g x (wipe σ vs) H fun σ2 H2 => wipe σ2 vs = wipe σ vs ∧ tt σ2 H2 fun b H3 =>
      if b = true then te σ2 H3 fun y H4 => ∃ acc, H4 D = some (.lst acc) ∧ acc.length < sizeLine ∧ Pv D (i + 1) (upd H4 D (.lst (acc ++ [y]))) else Pv D (i + 1) H3) (hd : ∀ D H', H D = none → Pv D xs.length H' → Q (.ref D) H') : kIT K (kLc g tt te vs σ Q) (.ref a) H :=
  ⟨a, rfl, ⟨_, hS⟩, fun D nD => lc_tup (K := K) (a := a) (xs := xs) (Pv D) (h0 D nD) (hl D) (hs D) (fun H' p => hd D H' nD p)⟩
theorem w_lcR {tt : TT} {te : TE} {vs : List Nat} {Q : VK} {j : Int} (n : Nat) (Pv : Addr → Nat → Hp → Prop) (hn : j.toNat = n) (hj : n < 4611686018427387904 ∧ -4611686018427387904 ≤ j) (h0 : ∀ D, H D = none → Pv D 0 (upd H D (.lst [])))
    (hs : ∀ D i H, i < n → Pv D i H → g (.int (i : Int)) (wipe σ vs) H fun σ2 H2 => wipe σ2 vs = wipe σ vs ∧ tt σ2 H2 fun b H3 =>
      if b = true then te σ2 H3 fun y H4 => ∃ acc, H4 D = some (.lst acc) ∧ acc.length < sizeLine ∧ Pv D (i + 1) (upd H4 D (.lst (acc ++ [y]))) else Pv D (i + 1) H3) (hd : ∀ D H', H D = none → Pv D n H' → Q (.ref D) H') : kR1 (kLc g tt te vs σ Q) [.int j] H := by
  refine ⟨j, rfl, by show -4611686018427387904 ≤ j; omega, by show j < 4611686018427387904; omega, ?_⟩
  subst hn
  refine fun D nD => lc_range (lo := 0) (n := j.toNat) (Pv D) (h0 D nD) (fun i H hi p => ?_) (fun H' p => hd D H' nD p)
  rw [Int.zero_add]
  exact hs D i H hi p
end
theorem take_more {α : Type} : ∀ {l : List α} {i : Nat} {x : α}, l[i]? = some x → l.take (i + 1) = l.take i ++ [x]
  | [], i, x, h => by simp at h
  | a :: l, 0, x, h => by
    have e : a = x := Option.some.inj h
    subst e
    rfl
  | a :: l, i + 1, x, h => by
    have ih := take_more (l := l) (i := i) (x := x) h
    show a :: l.take (i + 1) = a :: l.take i ++ [x]
    rw [ih]
    rfl
theorem map_get {ns : List Int} {i : Nat} {x : V} (h : (ns.map V.int)[i]? = some x) : ∃ n, ns[i]? = some n ∧ x = .int n := by
  rw [List.getElem?_map] at h
  cases e : ns[i]? with
  | none => rw [e] at h; cases h
  | some z => rw [e] at h; exact ⟨z, rfl, (Option.some.inj h).symm⟩
theorem w_p32 {H : Hp} {Q : VK} (q : Q (.int 4294967296) H) : rI CPow (fun i j => .int (i ^ j.toNat)) (.int 2) (.int 32) H Q := ⟨2, 32, rfl, rfl, ⟨by decide, by decide, by decide⟩, q⟩
theorem w_p31 {H : Hp} {Q : VK} (q : Q (.int 2147483648) H) : rI CPow (fun i j => .int (i ^ j.toNat)) (.int 2) (.int 31) H Q := ⟨2, 31, rfl, rfl, ⟨by decide, by decide, by decide⟩, q⟩
theorem w_p26 {H : Hp} {Q : VK} (q : Q (.int 67108864) H) : rI CPow (fun i j => .int (i ^ j.toNat)) (.int 2) (.int 26) H Q := ⟨2, 26, rfl, rfl, ⟨by decide, by decide, by decide⟩, q⟩
theorem w_p22 {H : Hp} {Q : VK} (q : Q (.int 4194304) H) : rI CPow (fun i j => .int (i ^ j.toNat)) (.int 2) (.int 22) H Q := ⟨2, 22, rfl, rfl, ⟨by decide, by decide, by decide⟩, q⟩
theorem w_p20 {H : Hp} {Q : VK} (q : Q (.int 1048576) H) : rI CPow (fun i j => .int (i ^ j.toNat)) (.int 2) (.int 20) H Q := ⟨2, 20, rfl, rfl, ⟨by decide, by decide, by decide⟩, q⟩
theorem w_p18 {H : Hp} {Q : VK} (q : Q (.int 262144) H) : rI CPow (fun i j => .int (i ^ j.toNat)) (.int 2) (.int 18) H Q := ⟨2, 18, rfl, rfl, ⟨by decide, by decide, by decide⟩, q⟩
theorem w_p17 {H : Hp} {Q : VK} (q : Q (.int 131072) H) : rI CPow (fun i j => .int (i ^ j.toNat)) (.int 2) (.int 17) H Q := ⟨2, 17, rfl, rfl, ⟨by decide, by decide, by decide⟩, q⟩
theorem w_p16 {H : Hp} {Q : VK} (q : Q (.int 65536) H) : rI CPow (fun i j => .int (i ^ j.toNat)) (.int 2) (.int 16) H Q := ⟨2, 16, rfl, rfl, ⟨by decide, by decide, by decide⟩, q⟩
theorem w_p14 {H : Hp} {Q : VK} (q : Q (.int 16384) H) : rI CPow (fun i j => .int (i ^ j.toNat)) (.int 2) (.int 14) H Q := ⟨2, 14, rfl, rfl, ⟨by decide, by decide, by decide⟩, q⟩
theorem w_p13 {H : Hp} {Q : VK} (q : Q (.int 8192) H) : rI CPow (fun i j => .int (i ^ j.toNat)) (.int 2) (.int 13) H Q := ⟨2, 13, rfl, rfl, ⟨by decide, by decide, by decide⟩, q⟩
/-- all but d stays -/
def But (d : Addr) (H H' : Hp) : Prop := ∀ b o, b ≠ d → H b = some o → H' b = some o
theorem But.refl (d : Addr) (H : Hp) : But d H H := fun _ _ _ h => h
theorem But.trans {d : Addr} {H H1 H2 : Hp} (a : But d H H1) (b : But d H1 H2) : But d H H2 := fun c o n h => b c o n (a c o n h)
theorem But.of {d : Addr} {H H' : Hp} (s : Same H H') : But d H H' := fun b o _ h => s b o h
theorem But.set {d : Addr} {H : Hp} {o : HO} : But d H (upd H d o) := fun b u n h => by rw [upd_ne n]; exact h
theorem But.tup {d : Addr} {H H' : Hp} {xs ys : List V} {a : Addr} (b : But d H H') (hd : H d = some (.lst ys)) (h : H a = some (.tup xs)) : H' a = some (.tup xs) := b a _ (ne_of h hd (by intro z; cases z)) h
theorem Same.new {H : Hp} {p : Addr} {o : HO} (h : H p = none) : Same H (upd H p o) := fun b x e => by rw [upd_ne (ne_of_none e h)]; exact e
theorem But.new {d : Addr} {H : Hp} {p : Addr} {o : HO} (h : H p = none) : But d H (upd H p o) := .of (Same.new h)
theorem w_setL {p : Addr} {xs : List V} {i : Int} {v : V} {H : Hp} {j : Nat} {Q : Hp → Prop} (h : H p = some (.lst xs)) (hj : ixN xs.length i = some j) (q : ∀ H', H' p = some (.lst (xs.set j v)) → But p H H' → Q H') : rSetL (.ref p) (.int i) v H Q := ⟨p, xs, i, j, rfl, rfl, h, hj, q _ upd_same But.set⟩
section
variable {X : Cx} {k i : Nat} {x : Str} {p pos : Pos} {e : Expr} {es : List Expr} {t : TA}
/-- a local that holds a def, called -/
def tCallZ (P : Program) (w : World) (K : PySem.W.Frag) (mg : Str → Option Value) (base : Heap) (k i : Nat) (t : TA) : TE := fun σ H Q => ∃ f sp, σ[i]? = some (some (.ref f)) ∧ Held P w K mg base k f sp ∧ t σ H fun vs H1 => sp vs H1 Q E0
theorem pe_callZ (hr : Room k X.A) (hN : X.N[i]? = some x) (hv : Vis X.env.scope x) (ha : PA X (e :: es) t)
    (hdb : (x == ("__debug__" : Str)) = false := by decide) (hcd : (x == ("__classdict__" : Str)) = false := by decide)
    (he : starEach (e :: es) X.env = (false, eval e X.env) :: starEach es X.env := by rfl) (hpl : (backTo pos (starEach es X.env)).any (·.1) = false := by rfl) : PE X (.Call (.Name x p) (e :: es) [] pos) (tCallZ X.prog X.w X.K X.mg X.base k i t) := by
  refine ⟨fun pins s σ H Q I h => ?_⟩
  obtain ⟨f, sp, hs, hd, ht⟩ := h
  obtain ⟨fd, ps, F, hk, hb⟩ := hd.ex
  refine (pe_callL (i := i) (f := f) (sp := sp) (dvs := []) (E := E0) F hr hN hv hk hb .nil pass0 ha hdb hcd he hpl).run pins s σ H Q I ⟨hs, ?_⟩
  show t σ H (fun vs H1 => sp (vs ++ []) H1 Q E0)
  simp only [List.append_nil]
  exact ht
end
theorem w_callZ {P : Program} {w : World} {K : PySem.W.Frag} {mg : Str → Option Value} {base : Heap} {k i : Nat} {t : TA} {σ : L2.St} {H : Hp} {Q : VK} {f : Addr} {sp : Sp} (hs : σ[i]? = some (some (.ref f))) (h : Held P w K mg base k f sp) (q : t σ H fun vs H1 => sp vs H1 Q E0) : tCallZ P w K mg base k i t σ H Q := ⟨f, sp, hs, h, q⟩
theorem w_ixD {K : PySem.W.Frag} {w : World} {p : Addr} {z : Str} {v : V} {H : Hp} {Q : VK} (h : KDct K w p z v) (q : Q v H) : rIxD K w (.ref p) (.str z) H Q := ⟨p, z, v, rfl, rfl, h, q⟩
theorem w_eqS {a b : Str} {H : Hp} {Q : VK} (q : Q (.bl (decide (a = b))) H) : rEq (.str a) (.str b) H Q := ⟨rfl, by
  have e : (decide (V.str a = V.str b)) = decide (a = b) := by
    by_cases h : a = b
    · subst h; simp
    · rw [decide_eq_false h, decide_eq_false (fun z => h (V.str.inj z))]
  rw [e]; exact q⟩
theorem w_decT {c : Prop} [Decidable c] {A B : Prop} (h : c) (q : A) : if decide c = true then A else B := by
  rw [if_pos (decide_eq_true h)]; exact q
theorem w_decF {c : Prop} [Decidable c] {A B : Prop} (h : ¬ c) (q : B) : if decide c = true then A else B := by
  rw [if_neg (by rw [decide_eq_false h]; exact Bool.false_ne_true)]; exact q
theorem w_inL {K : PySem.W.Frag} {x : V} {p : Addr} {xs : List V} {H : Hp} {Q : VK} {b : Bool} (h : H p = some (.lst xs)) (hx : flatV x = true) (ha : xs.all flatV = true) (hb : inV x xs = b) (q : Q (.bl b) H) : rIn K false x (.ref p) H Q := ⟨p, xs, rfl, .inl (.inl (.inl h)), hx, ha, by rw [hb]; exact q⟩
def rAddSQ : R2 := fun x y H Q => ∃ i j, x = .str i ∧ y = .str j ∧ i.length + j.length ≤ sizeLine ∧ Q (.str (i ++ j)) H
theorem op_addSQ {X : Cx} : OpR X (binaryOp .Add) rAddSQ := op_add_str
theorem w_addS {a b : Str} {H : Hp} {Q : VK} (h : a.length + b.length ≤ sizeLine) (q : Q (.str (a ++ b)) H) : rAddSQ (.str a) (.str b) H Q := ⟨a, b, rfl, rfl, h, q⟩
section
variable {X : Cx} {c a b : Expr} {tc ta tb : TT} {pos : Pos}
/-- a if c else b, as a test -/
def tIfB (tc ta tb : TT) : TT := fun σ H Q => tc σ H fun k H1 => if k = true then ta σ H1 Q else tb σ H1 Q
theorem pt_ifExp (hc : PT X c tc) (ha : PT X a ta) (hb : PT X b tb) : PT X (.IfExp c a b pos) (tIfB tc ta tb) := by
  refine ⟨fun pins s σ H Q I h => ?_⟩
  refine isTrue_IfExp (thn (hc.run pins s σ H _ I h) fun k s1 ⟨H1, I1, q⟩ => ?_)
  cases k with
  | true => exact ha.run pins s1 σ H1 Q I1 (by simpa using q)
  | false => exact hb.run pins s1 σ H1 Q I1 (by simpa using q)
theorem w_ifB {σ : L2.St} {H : Hp} {Q : Bool → Hp → Prop} (q : tc σ H fun k H1 => if k = true then ta σ H1 Q else tb σ H1 Q) : tIfB tc ta tb σ H Q := q
end
theorem w_gTup {K : PySem.W.Frag} {n : Nat} {t : TGs} {a : Addr} {xs : List V} {σ : L2.St} {H : Hp} {Q : L2.St → Hp → Prop} (h : H a = some (.tup xs)) (hn : xs.length = n) (q : t xs σ H Q) : gTup K n t (.ref a) σ H Q := ⟨a, xs, rfl, .inl (.inl h), hn, q⟩
theorem w_gNil {σ : L2.St} {H : Hp} {Q : L2.St → Hp → Prop} (q : Q σ H) : gNil [] σ H Q := ⟨rfl, q⟩
theorem w_gCons {t : TG} {u : TGs} {v : V} {r : List V} {σ : L2.St} {H : Hp} {Q : L2.St → Hp → Prop} (q : t v σ H fun σ' H' => u r σ' H' Q) : gCons t u (v :: r) σ H Q := ⟨v, r, rfl, q⟩
theorem w_isB {a b : Bool} {H : Hp} {Q : VK} (q : Q (.bl (decide (a = b))) H) : rIsB (.bl a) (.bl b) H Q := ⟨a, b, rfl, rfl, q⟩
theorem w_notB {a b : Bool} {H : Hp} {Q : VK} (q : Q (.bl (!decide (a = b))) H) : rNotB (.bl a) (.bl b) H Q := ⟨a, b, rfl, rfl, q⟩
theorem w_isiInt {K : PySem.W.Frag} {i : Int} {H : Hp} {Q : VK} (q : Q (.bl true) H) : rIsi K [.int i, .ty "int"] H Q := ⟨.int i, .ty "int", .type "int", .type "int", true, rfl, .ty _, .base (.int _), kit_ty (by decide +kernel), q⟩
theorem w_isiIntB {K : PySem.W.Frag} {i : Int} {H : Hp} {Q : VK} (q : Q (.bl false) H) : rIsi K [.int i, .ty "bool"] H Q := ⟨.int i, .ty "bool", .type "int", .type "bool", false, rfl, .ty _, .base (.int _), kit_ty (by decide +kernel), q⟩
theorem w_ndecF {c : Prop} [Decidable c] {A B : Prop} (h : c) (q : B) : if (!decide c) = true then A else B := by
  rw [if_neg (by rw [decide_eq_true h]; decide)]; exact q
theorem w_ndecT {c : Prop} [Decidable c] {A B : Prop} (h : ¬ c) (q : A) : if (!decide c) = true then A else B := by
  rw [if_pos (by rw [decide_eq_false h]; rfl)]; exact q
theorem w_nT {A B : Prop} (q : B) : if (!true) = true then A else B := by rw [if_neg (by decide)]; exact q
theorem w_nF {A B : Prop} (q : A) : if (!false) = true then A else B := by rw [if_pos (by decide)]; exact q
theorem map_get' {α : Type} {f : α → V} {ns : List α} {i : Nat} {x : V} (h : (ns.map f)[i]? = some x) : ∃ n, n ∈ ns ∧ ns[i]? = some n ∧ x = f n := by
  rw [List.getElem?_map] at h
  cases e : ns[i]? with
  | none => rw [e] at h; cases h
  | some z => rw [e] at h; exact ⟨z, List.mem_of_getElem? e, rfl, (Option.some.inj h).symm⟩
/-- pure functions of ints -/
def spI1 (C : Int → Prop) (f : Int → V) : Sp := fun vs H Q _ => ∃ x, vs = [.int x] ∧ C x ∧ Q (f x) H
def spI2 (C : Int → Int → Prop) (f : Int → Int → V) : Sp := fun vs H Q _ => ∃ x y, vs = [.int x, .int y] ∧ C x y ∧ Q (f x y) H
theorem w_spI1 {C : Int → Prop} {f : Int → V} {x : Int} {H : Hp} {Q : VK} {E : XK} (c : C x) (q : Q (f x) H) : spI1 C f [.int x] H Q E := ⟨x, rfl, c, q⟩
theorem w_spI2 {C : Int → Int → Prop} {f : Int → Int → V} {x y : Int} {H : Hp} {Q : VK} {E : XK} (c : C x y) (q : Q (f x y) H) : spI2 C f [.int x, .int y] H Q E := ⟨x, y, rfl, c, q⟩
theorem len_spI1 {C : Int → Prop} {f : Int → V} {s : Str} (vs : List V) (H : Hp) (Q : VK) (E : XK) (h : spI1 C f vs H Q E) : vs.length = [s].length := by
  obtain ⟨x, rfl, _⟩ := h; rfl
theorem len_spI2 {C : Int → Int → Prop} {f : Int → Int → V} {s r : Str} (vs : List V) (H : Hp) (Q : VK) (E : XK) (h : spI2 C f vs H Q E) : vs.length = [s, r].length := by
  obtain ⟨x, y, rfl, _⟩ := h; rfl
/-- a Cd from a def that stands -/
theorem mkCd {P : Program} {w : World} {K : PySem.W.Frag} {mg : Str → Option Value} {base : Heap} {x qual : Str} {st : Stmt} {f : Addr} {fd : FuncData} {k : Nat} {ps : List Str} {sp : Sp} (F : Fun K x qual st f fd) (b : Binds K fd ps []) (m : mg x = some (.ref f)) (ok : FnOk P w K mg base CX0 k f fd ps sp) : Cd P w K mg base k x sp :=
  ⟨f, fd, ps, ok, m, F.kp, b⟩
/-- what stands: the def, how its arguments bind, its name -/
structure St1 (K : PySem.W.Frag) (mg : Str → Option Value) (x : Str) (st : Stmt) (ps : List Str) : Prop where
  ex : ∃ f fd, Fun K x x st f fd ∧ Binds K fd ps [] ∧ mg x = some (.ref f)
theorem St1.cd {P : Program} {w : World} {K : PySem.W.Frag} {mg : Str → Option Value} {base : Heap} {x : Str} {st : Stmt} {k : Nat} {N ps : List Str} {sp : Sp} (Z : St1 K mg x st ps) (S : FnScope N ps (defScope st)) (len : ∀ vs H Q E, sp vs H Q E → vs.length = ps.length)
    (hbody : ∀ (f : Addr) (cdv : Value) (A : Around) (outer : List Env) (s : Shared) (H : Hp) (vs : List V) (Q : VK) (E : XK), Room k (A.deeper (envOfC x (defScope st) s.heap.objs.size f cdv)) → sp vs H Q E →
      ∃ t, PSs (cxOf CX0 P w K mg base N x (defScope st) f cdv A outer s H E).nox (defBody st) t ∧ t { nx := fun _ H' => Q .non H', rt := Q } (start N vs) H) : Cd P w K mg base (k + 1) x sp := by
  obtain ⟨f, fd, F, b, m⟩ := Z.ex
  exact mkCd F b m (F.ok S len (hbody f))
theorem mkSt1 {K : PySem.W.Frag} {mg : Str → Option Value} {x : Str} {st : Stmt} {ps : List Str} {h : Heap} {f : Addr} {oc : Value} {od an : Option Addr} {osl : Array (Option Value)} {kV doc pm cdv ct : Value} (X : K.In h) (G : h.Ns mainGlobals mg)
    (a : PySem.W.nsIn K mainGlobals x = some (some (.ref f))) (l : K.lookup f = some ⟨oc, od, .func (PySem.W.fnOf x x (defArgs st) (defBody st) (defScope st) .none kV doc pm an cdv ct), osl⟩) (c : PySem.W.codeIn K cdv x = true) (k : PySem.W.keepIn K (.ref f) = true)
    (hb : ∀ (kV doc pm : Value) (an : Option Addr) (cdv ct : Value) (us : List Value), us.length = ps.length → bindArgs (PySem.W.fnOf x x (defArgs st) (defBody st) (defScope st) .none kV doc pm an cdv ct) ⟨us, []⟩ = pure (ps.zip us)) : St1 K mg x st ps :=
  ⟨f, _, fun_mk (st := st) l c k, (fun_mk (st := st) l c k).binds hb, PySem.W.mg_of X G a⟩
/-- a def among others that a local may hold -/
theorem Cd.held {P : Program} {w : World} {K : PySem.W.Frag} {mg : Str → Option Value} {base : Heap} {k : Nat} {x : Str} {sp : Sp} {f : Addr} (c : Cd P w K mg base k x sp) (m : mg x = some (.ref f)) : Held P w K mg base k f sp := by
  obtain ⟨f', fd, ps, F, m', kp, b⟩ := c.ex
  cases m'.symm.trans m
  exact ⟨⟨fd, ps, F, kp, b⟩⟩
end Co

set_option Elab.async false
set_option linter.all false
set_option maxRecDepth 100000
set_option maxHeartbeats 4000000
namespace Co
open PySem PySem.Spec PyProof.Rows L2 PpSet
/-! ### a comprehension, clause by clause: one rule for each clause's loop, whatever its turn does -/
/-- a clause's turn, what is done with an item told apart -/
def turnOf (tg src : Expr) (ifs : List Expr) (it : Value) (env : Env) (body : Sem Unit) (c : Code) : Sem PySem.Fin := do
  standAt src.pos
  match ← pyNext it with
  | none => pure (.done .next)
  | some v =>
    letOwnedTupleGo tg it v
    assign tg env v
    let mut ok := true
    for c in ifs do
      if ok then ok ← isTrue c env (eval c env)
    if ok then body
    again c
/-- the body of the innermost clause of a set's comprehension -/
def addTo (elt : Expr) (acc : Value) (env : Env) : Sem Unit := do
  let v ← eval elt env
  standAt elt.pos
  let _ ← call (.builtin "set.add") [acc, v]
theorem turn_s1 (elt t i : Expr) (ifs : List Expr) (sc : Scope) (pos : Pos) (it acc : Value) (env : Env) :
    compTurn (.SetComp elt [⟨t, i, ifs, 0⟩] sc pos) 0 it acc env = turnOf t i ifs it env (addTo elt acc env) (.compLoop (.SetComp elt [⟨t, i, ifs, 0⟩] sc pos) 0 it acc env) := by rfl
theorem turn_s2b (elt t i t1 i1 : Expr) (ifs ifs1 : List Expr) (sc : Scope) (pos : Pos) (it acc : Value) (env : Env) :
    compTurn (.SetComp elt [⟨t, i, ifs, 0⟩, ⟨t1, i1, ifs1, 0⟩] sc pos) 1 it acc env = turnOf t1 i1 ifs1 it env (addTo elt acc env) (.compLoop (.SetComp elt [⟨t, i, ifs, 0⟩, ⟨t1, i1, ifs1, 0⟩] sc pos) 1 it acc env) := by rfl
/-- what an outer clause does with an item: the next clause begins -/
def beginIn (C : Expr) (i1 : Expr) (k : Nat) (acc : Value) (env : Env) : Sem Unit := do
  let x ← eval i1 env
  standAt i1.pos
  let x ← foldedSetIterable i1 env x
  let _ ← runOwn (.compStart C k (← holding [x] (pyIter x)) acc env) env
theorem turn_s2a (elt t i t1 i1 : Expr) (ifs ifs1 : List Expr) (sc : Scope) (pos : Pos) (it acc : Value) (env : Env) :
    compTurn (.SetComp elt [⟨t, i, ifs, 0⟩, ⟨t1, i1, ifs1, 0⟩] sc pos) 0 it acc env = turnOf t i ifs it env (beginIn (.SetComp elt [⟨t, i, ifs, 0⟩, ⟨t1, i1, ifs1, 0⟩] sc pos) i1 1 acc env) (.compLoop (.SetComp elt [⟨t, i, ifs, 0⟩, ⟨t1, i1, ifs1, 0⟩] sc pos) 0 it acc env) := by
  unfold turnOf beginIn
  simp only [bind_assoc, pure_bind]
  rfl

/-- no exception -/
abbrev Never : Value → Shared → Prop := fun _ _ => False
section
variable {prog : Program} {w : World} {A : Around} {s : Shared} {elt : Expr} {gens : List Comprehension} {sc : Scope} {pos : Pos} {k : Nat} {it acc : Value} {env : Env} {tg src : Expr} {ifs : List Expr} {body : Sem Unit}
/-- the tests of a clause -/
def testsOf (ifs : List Expr) (env : Env) : Sem Bool := forIn ifs true fun c r => if r = true then do let ok ← isTrue c env (eval c env); pure (ForInStep.yield ok) else pure (ForInStep.yield r)
/-- one turn: from I n either the source is at its end, or an item goes through and a lesser n is reached -/
theorem clause_loop {R : Shared → Prop} (hC : compTurn (.SetComp elt gens sc pos) k it acc env = turnOf tg src ifs it env body (.compLoop (.SetComp elt gens sc pos) k it acc env)) (I : Nat → Shared → Prop)
    (turn : ∀ n s, I n s → wpAny (model prog w) A (pyNext it) (fun r s1 => (r = none ∧ R s1) ∨ ∃ v, r = some v ∧ wpAny (model prog w) A (letOwnedTupleGo tg it v) (fun _ s2 => wpAny (model prog w) A (assign tg env v) (fun _ s3 => wpAny (model prog w) A (testsOf ifs env) (fun ok s4 =>
      if ok = true then wpAny (model prog w) A body (fun _ s5 => ∃ m, m < n ∧ I m s5) Never s4 else ∃ m, m < n ∧ I m s4) Never s3) Never s2) Never s1) Never s) (n : Nat) (h : I n s) :
    codeAny (model prog w) A (.compLoop (.SetComp elt gens sc pos) k it acc env) (fun r s' => r = .ok .next ∧ R s') s := by
  refine codeAny_loop rfl I (fun n s hI => ?_) n h
  show wpAny _ A ((compTurn (.SetComp elt gens sc pos) k it acc env).onRaise fun x => do noteFrame x env; theTreesLotGoes x) _ _ s
  rw [hC]
  refine wpAny_noted (wpAny_bind (wpAny_standAt (wpAny_bind (thnF (turn n s hI) fun r s1 h1 => ?_))))
  rcases h1 with ⟨rfl, q⟩ | ⟨v, rfl, q⟩
  · exact wpAny_pure ⟨rfl, q⟩
  · refine wpAny_bind (thnF q fun _ s2 q => wpAny_bind (thnF q fun _ s3 q => wpAny_bind (thnF q fun ok s4 q => ?_)))
    cases ok with
    | false => exact wpAny_pure ⟨rfl, q⟩
    | true => exact wpAny_bind (thnF q fun _ s5 q => wpAny_pure ⟨rfl, q⟩)
end
/-! ### the same over the abstract heap -/
/-- what a turn's body does: it leaves the slots beyond vs as they were, and a heap of K -/
abbrev TBd := L2.St → Hp → (Hp → Prop) → Prop
def Kept (vs : List Nat) (σ σ' : L2.St) : Prop := σ'.length = σ.length ∧ ∀ (j : Nat) (v : V), j ∉ vs → σ[j]? = some (some v) → σ'[j]? = some (some v)
theorem Kept.refl {vs : List Nat} {σ : L2.St} : Kept vs σ σ := ⟨rfl, fun _ _ _ e => e⟩
structure PB (X : Cx) (vs : List Nat) (body : Sem Unit) (tb : TBd) : Prop where
  run : ∀ (pins : List (Addr × Obj)) (s : Shared) (σ : L2.St) (H : Hp) (Z : Hp → Prop), Inv X pins σ H s → tb σ H Z → wpAny (model X.prog X.w) X.A body (fun _ s' => ∃ σ' H', Inv X pins σ' H' s' ∧ Kept vs σ σ' ∧ Z H') Never s
/-- a clause's loop over its source -/
def tLp (g : TG) (tt : TT) (tb : TBd) (vs : List Nat) (σ : L2.St) (Z : Hp → Prop) : It → Hp → Prop := fun J H0 => ∃ W : Nat → Nat → Hp → Prop, (∃ m, W 0 m H0) ∧ ∀ i m H, W i m H →
  (J.stop i H ∧ Z H) ∨ (J.go i H ∧ ∃ Nx : Hp → Prop, (∀ H', Nx H' → ∃ m', m' < m ∧ W (i + 1) m' H') ∧ ∀ x H', J.yld i H x H' → g x (wipe σ vs) H' fun σ2 H2 => wipe σ2 vs = wipe σ vs ∧ tt σ2 H2 fun b H3 => if b = true then tb σ2 H3 Nx else Nx H3)
theorem kept_wipe {vs : List Nat} {σ σ2 : L2.St} (h : wipe σ2 vs = wipe σ vs) : (wipe σ vs).length = σ2.length ∧ ∀ (j : Nat) (v : V), (wipe σ vs)[j]? = some (some v) → j ∉ vs ∧ σ2[j]? = some (some v) := by
  rw [← h]
  exact ⟨wipe_length _ _, fun j v e => ⟨(wipe_some e).2, (wipe_some e).1⟩⟩
section
variable {X : Cx} {s : Shared} {elt : Expr} {gens : List Comprehension} {sc : Scope} {pos : Pos} {k : Nat} {acc : Value} {tg src : Expr} {ifs : List Expr} {body : Sem Unit} {g : TG} {tt : TT} {tb : TBd} {wb vs : List Nat}
/-- THE RULE for a clause: its loop, from the state in which its source has just been asked for an iterator -/
theorem clause_run {pins : List (Addr × Obj)} {σ : L2.St} {H : Hp} {it : Addr} {fp : List Addr} {tn : Nat → Heap → Prop} {J : It} {Z : Hp → Prop} (hc : X.calm = true) (never : ∀ e s, X.xe e s → False) (hC : compTurn (.SetComp elt gens sc pos) k (.ref it) acc X.env = turnOf tg src ifs (.ref it) X.env body (.compLoop (.SetComp elt gens sc pos) k (.ref it) acc X.env))
    (hg : PG X tg g) (ht : PTs X ifs tt) (hb : PB X wb body tb) (hw : ∀ j ∈ wb, j ∈ vs) (T : Turn X.prog X.w X.K tg J fp it tn) (I : Inv X pins σ H s) (st : tn 0 s.heap) (hf : ∀ b ∈ fp, FpOk X pins H b) (q : tLp g tt tb vs σ Z J H) :
    codeAny (model X.prog X.w) X.A (.compLoop (.SetComp elt gens sc pos) k (.ref it) acc X.env) (fun r s' => r = .ok .next ∧ ∃ H', Inv X pins (wipe σ vs) H' s' ∧ (∀ b ∈ fp, H' b = none) ∧ Z H') s := by
  obtain ⟨W, ⟨m0, w0⟩, turn⟩ := q
  have fpk : ∀ {H' : Hp}, (∀ b ∈ fp, H' b = none) → ∀ b ∈ fp, FpOk X pins H' b := fun z b hb => ⟨z b hb, (hf b hb).2⟩
  have nv : ∀ {α : Type} {t : Sem α} {Q : α → Shared → Prop} {s : Shared}, wpAny (model X.prog X.w) X.A t Q X.xe s → wpAny (model X.prog X.w) X.A t Q Never s := fun h => wpAny_mono h (fun _ _ q => q) never
  refine clause_loop (R := fun s' => ∃ H', Inv X pins (wipe σ vs) H' s' ∧ (∀ b ∈ fp, H' b = none) ∧ Z H') hC (fun n s' => ∃ i H', Inv X pins (wipe σ vs) H' s' ∧ tn i s'.heap ∧ (∀ b ∈ fp, H' b = none) ∧ W i n H') ?_ m0 ⟨0, H, I.weak (wipe_length _ _) fun j v e => (wipe_some e).1, st, fun b hb => (hf b hb).1, w0⟩
  rintro n s1 ⟨i, H1, I1, st1, n1, w1⟩
  rcases turn i n H1 w1 with ⟨stop, z⟩ | ⟨go, Nx, hNx, step⟩
  · exact thnF (T.done X rfl rfl rfl hc i pins s1 _ H1 Never I1 (fpk n1) st1 stop) fun r s2 ⟨e, I2⟩ => .inl ⟨e, H1, I2, n1, z⟩
  · refine thnF (T.item X rfl rfl rfl hc i pins s1 _ H1 Never I1 (fpk n1) st1 go) fun r s2 ⟨u, e, h2⟩ => .inr ⟨u, e, thnF h2 fun _ s3 ⟨x, H3, I3, r3, y3, st3, n3⟩ => ?_⟩
    have I3p := I3.pinned (fpk n3) (T.obj _ _ st3)
    have fin : ∀ {σ' : L2.St} {s' : Shared} {H' : Hp}, Inv X (pins ++ pinsAt fp s3.heap) σ' H' s' → σ'.length = (wipe σ vs).length → (∀ (j : Nat) (v : V), (wipe σ vs)[j]? = some (some v) → σ'[j]? = some (some v)) → Nx H' →
        ∃ m, m < n ∧ ∃ i H', Inv X pins (wipe σ vs) H' s' ∧ tn i s'.heap ∧ (∀ b ∈ fp, H' b = none) ∧ W i m H' := by
      intro σ' s' H' I' hl hk nx
      obtain ⟨m, hm, w2⟩ := hNx H' nx
      have pinned : ∀ b ∈ fp, ∃ o, s3.heap.get? b = some o ∧ s'.heap.get? b = some o ∧ H' b = none := fun b hb => by
        obtain ⟨o, e, _⟩ := T.obj _ _ st3 b hb
        have p := I'.pin (b, o) (List.mem_append_right _ (List.mem_append_right _ (mem_pinsAt hb e)))
        exact ⟨o, e, p.1, p.2.1⟩
      refine ⟨m, hm, i + 1, H', I'.unpinned.weak hl.symm hk, T.keep _ _ _ st3 fun b hb o e => ?_, fun b hb => ?_, w2⟩
      · obtain ⟨o', e1, e2, _⟩ := pinned b hb
        rw [e] at e1; cases e1; exact e2
      · obtain ⟨_, _, _, e⟩ := pinned b hb; exact e
    refine nv (thn (hg.run _ s3 _ H3 x u _ I3p r3 (step x H3 y3)) fun _ s4 ⟨σ4, H4, I4, hw4, q4⟩ => ?_)
    obtain ⟨l4, k4⟩ := kept_wipe hw4
    refine nv (thn (ht.run _ s4 σ4 H4 _ I4 q4) fun b s5 ⟨H5, I5, q5⟩ => ?_)
    cases b with
    | false => exact iteF (fin I5 l4.symm (fun j v e => (k4 j v e).2) (by simpa using q5))
    | true =>
      refine iteT (thnF (hb.run _ s5 σ4 H5 Nx I5 (by simpa using q5)) fun _ s6 ⟨σ6, H6, I6, kp, z⟩ => ?_)
      exact fin I6 (kp.1.trans l4.symm) (fun j v e => kp.2 j v (fun m => (k4 j v e).1 (hw j m)) (k4 j v e).2) z
end
section
variable {prog : Program} {w : World} {A : Around} {R : Result → Shared → Prop} {s : Shared} {elt : Expr} {gens : List Comprehension} {g : Comprehension} {sc : Scope} {pos : Pos} {k : Nat} {it acc : Value} {env : Env}
/-- a clause's beginning: its source's iterator is asked for itself, or not -/
theorem clause_start (hg : gens[k]? = some g) (ha : g.is_async = 0) (h0 : codeAny (model prog w) A (.compLoop (.SetComp elt gens sc pos) k it acc env) R s)
    (h1 : wpAny (model prog w) A (pyIter it) (fun v s' => codeAny (model prog w) A (.compLoop (.SetComp elt gens sc pos) k v acc env) R s') Never s) : codeAny (model prog w) A (.compStart (.SetComp elt gens sc pos) k it acc env) R s := by
  refine codeAny_of_tree ?_
  show wpAny _ _ ((compStart (.SetComp elt gens sc pos) k it acc env).onRaise fun x => do noteFrame x env; standAt theWindowsPlace) _ _ s
  refine wpAny_notedAt ?_
  unfold compStart
  have e1 : (clausesOf (.SetComp elt gens sc pos))[k]? = some g := hg
  rw [e1]
  have e2 : ((some g).elim false fun x : Comprehension => x.is_async != 0) = false := by show (g.is_async != 0) = false; rw [ha]; rfl
  rw [e2, if_neg (by decide)]
  refine wpAny_bind (wpAny_askSetting ?_)
  split
  · exact wpAny_pure ⟨rfl, h0⟩
  · exact wpAny_bind (wpAny_rule (wpAny_bind (wpAny_standAt (wpAny_bind (thnF h1 fun v s' q => wpAny_pure ⟨rfl, q⟩)))))
end
/-! ### the bodies -/
section
variable {X : Cx}
/-- an int added to the set at D -/
def tAdd (w : World) (D : Addr) (te : TE) : TBd := fun σ H Z => te σ H fun y H4 => ∃ (c : Int) (S : Int → Bool) (n : Nat), y = .int c ∧ H4 D = some (SetO w D S n) ∧ n + 1 < scanBound ∧ Z (upd H4 D (SetO w D (fun j => S j || decide (j = c)) (if S c = true then n else n + 1)))
theorem add_int {pins : List (Addr × Obj)} {σ : L2.St} {H : Hp} {s : Shared} {E : Value → Shared → Prop} {D : Addr} {S : Int → Bool} {n : Nat} {y : Int} {t : Tok} {Q : Value → Shared → Prop} (I : Inv X pins σ H s) (hD : H D = some (SetO X.w D S n)) (room : n + 1 < scanBound)
    (h : ∀ v s', Inv X pins σ (upd H D (SetO X.w D (fun j => S j || decide (j = y)) (if S y = true then n else n + 1))) s' → Q v s') : wpAny (model X.prog X.w) X.A (call (.builtin "set.add") [.ref D, .int y t]) Q E s := by
  refine setR_add (setO_get I hD) room fun h' sb new => h _ _ ?_
  have ho := new.choose_spec.choose_spec.choose_spec.choose_spec.1
  exact I.write (t' := s.toks + 1) (by rw [hD]; trivial) (.inl rfl) (fun b u hb hu => (sb.2 b hb).trans hu) ⟨_, ho⟩ (setO_new new)
theorem pb_add {elt : Expr} {te : TE} {D : Addr} (never : ∀ e s, X.xe e s → False) (he : PE X elt te) : PB X [] (addTo elt (.ref D) X.env) (tAdd X.w D te) := by
  refine ⟨fun pins s σ H Z I q => ?_⟩
  refine wpAny_bind (wpAny_mono (he.run pins s σ H _ I q) (fun u s1 h => wpAny_bind (wpAny_standAt ?_)) never)
  obtain ⟨v, H1, I1, r, c, S, n, rfl, hD, room, z⟩ := h
  obtain ⟨t, rfl⟩ := r
  exact wpAny_bind (add_int I1 hD room fun _ s2 I2 => wpAny_pure ⟨σ, _, I2, .refl, z⟩)
/-- the next clause -/
def tIn (wi : TI) (g : TG) (tt : TT) (tb : TBd) (vs : List Nat) : TBd := fun σ H Z => wi σ H (tLp g tt tb vs σ Z)
theorem pb_in {elt : Expr} {gens : List Comprehension} {sc : Scope} {pos : Pos} {D : Addr} {tg src : Expr} {ifs : List Expr} {k : Nat} {body : Sem Unit} {wi : TI} {g : TG} {tt : TT} {tb : TBd} {wb vs : List Nat} (hc : X.calm = true) (never : ∀ e s, X.xe e s → False)
    (hk : gens[k]? = some ⟨tg, src, ifs, 0⟩) (hC : ∀ it, compTurn (.SetComp elt gens sc pos) k it (.ref D) X.env = turnOf tg src ifs it X.env body (.compLoop (.SetComp elt gens sc pos) k it (.ref D) X.env)) (hs : ∀ x, foldedSetIterable src X.env x = pure x)
    (hi : PI X tg src wi) (hg : PG X tg g) (ht : PTs X ifs tt) (hb : PB X wb body tb) (hw : ∀ j ∈ wb, j ∈ vs) : PB X vs (beginIn (.SetComp elt gens sc pos) src k (.ref D) X.env) (tIn wi g tt tb vs) := by
  refine ⟨fun pins s σ H Z I q => ?_⟩
  refine wpAny_bind (wpAny_mono (hi.run pins s σ H _ I q) (fun u s1 h => wpAny_bind (wpAny_standAt (wpAny_bind (wpAny_of_eq (hs u) (wpAny_bind (wpAny_holding (wpAny_mono h (fun itv s2 h2 => ?_) never))))))) never)
  obtain ⟨it, fp, tn, J, H2, rfl, I2, T, st, hf, q2⟩ := h2
  have loop := clause_run hc never (hC (.ref it)) hg ht hb hw T I2 st hf q2
  refine wpAny_bind (wpAny_runOwn ?_)
  rw [Around.mark_none]
  refine codeAny_mono (clause_start hk rfl loop (T.self _ 0 _ _ _ st loop)) fun r s3 h3 => ?_
  obtain ⟨rfl, H3, I3, _, z⟩ := h3
  exact wpAny_pure ⟨_, H3, I3, ⟨wipe_length _ _, fun j v hj e => by rw [wipe_out hj]; exact e⟩, z⟩
end
theorem wipe_set (τ : L2.St) (v : Nat) : ∀ vs : List Nat, wipe (τ.set v none) vs = (wipe τ vs).set v none
  | [] => rfl
  | u :: vs => by
    unfold wipe
    rw [wipe_set τ v vs]
    by_cases h : v = u
    · subst h; rfl
    · rw [List.set_comm _ _ h]
theorem wipe_wipe (σ : L2.St) : ∀ vs : List Nat, wipe (wipe σ vs) vs = wipe σ vs
  | [] => rfl
  | v :: vs => by
    show (wipe ((wipe σ vs).set v none) vs).set v none = (wipe σ vs).set v none
    rw [wipe_set, wipe_wipe σ vs, List.set_set]
/-! ### the whole of a set's comprehension -/
section
variable {X : Cx}
def tScG (w : World) (wi : TI) (g : TG) (tt : TT) (tb : Addr → TBd) (vs : List Nat) : TE := fun σ H Q => wi σ H fun J H1 => ∀ D, H1 D = none → tLp g tt (tb D) vs σ (Q (.ref D)) J (upd H1 D (SetO w D (fun _ => false) 0))
/-- the block's context -/
abbrev InBlk (X : Cx) (sc : Scope) (B : Cx → Prop) : Prop := ∀ (s : Shared) (H : Hp) (C : Addr) (cl : List (Str × Addr)) (fp : List Addr), B (X.blk s H sc (compEnvC sc cl C X.env) fp)
theorem pe_scG {elt tg src : Expr} {ifs : List Expr} {rest : List Comprehension} {sc : Scope} {pos : Pos} {own : List (Str × Nat)} {wi : TI} {g : TG} {tt : TT} {tb : Addr → TBd} {wb : List Nat} {body : Value → Env → Sem Unit} (hc : X.calm = true) (hN : X.N.Nodup) (hi : PI X tg src wi) (ok : BlkOk X.N X.env.scope sc own) (hw : ∀ j ∈ wb, j ∈ own.map (·.2))
    (hC : ∀ it acc env, compTurn (.SetComp elt (⟨tg, src, ifs, 0⟩ :: rest) sc pos) 0 it acc env = turnOf tg src ifs it env (body acc env) (.compLoop (.SetComp elt (⟨tg, src, ifs, 0⟩ :: rest) sc pos) 0 it acc env))
    (hg : InBlk X sc fun B => PG B tg g) (ht : InBlk X sc fun B => PTs B ifs tt) (hb : InBlk X sc fun B => ∀ D, PB B wb (body (.ref D) B.env) (tb D)) (hs : ∀ x, foldedSetIterable src X.env x = pure x := by intro _; rfl) :
    PE X (.SetComp elt (⟨tg, src, ifs, 0⟩ :: rest) sc pos) (tScG X.w wi g tt tb (own.map (·.2))) := by
  refine ⟨fun pins s σ H Q I q => ?_⟩
  rw [eval_SetComp]
  have free : ∀ y ∈ sc.names, y.2 = .free → ∃ c, X.env.cells.lookup y.1 = some c := fun y hy e => I.ok.has _ ((ok.free y hy e).imp id id)
  refine wpAny_comprehension_free (use := none) rfl hs (closure_ok free) ok.kind (fun y hy e => (ok.uniq y hy).trans (by rw [e])) (thn (hi.run pins s σ H _ I q) fun u s1 h1 => thn h1 fun v s2 h2 => newSet_ok (newEnv_comp ?_))
  obtain ⟨it, fp, tn, J, H2, rfl, I2, T, st, hf, q2⟩ := h2
  -- the new set's address, and the states with it and with the block's frame
  obtain ⟨D, hD⟩ : ∃ D, D = s2.heap.objs.size := ⟨_, rfl⟩
  obtain ⟨s3, hs3⟩ : ∃ s3 : Shared, s3 = { s2 with heap := s2.heap.push { cls := .type "set", dict := none, data := .set #[] 0 (.fresh 0 0 (!X.w.params.followText "set-order")) } } := ⟨_, rfl⟩
  have q3 := q2 D (by rw [hD]; exact I2.hok.fresh (Nat.le_refl _))
  obtain ⟨H3, hH3⟩ : ∃ H3, H3 = upd H2 D (SetO X.w D (fun _ => false) 0) := ⟨_, rfl⟩
  have I3 : Inv X pins σ H3 s3 := by
    subst hs3; subst hH3; subst hD
    exact I2.laid (t' := s2.toks) (fun b o e => Heap.get?_push_of_some _ e) (Nat.le_refl _) (setO_new (setR_fresh X.w))
  have old : ∀ b o, s2.heap.get? b = some o → s3.heap.get? b = some o := fun b o e => by rw [hs3]; exact Heap.get?_push_of_some _ e
  have f3 : ∀ b ∈ fp, FpOk X pins H3 b ∧ b < s3.heap.objs.size := fun b hb => by
    obtain ⟨o, e, _⟩ := T.obj _ _ st b hb
    have lt := Heap.lt_size e
    refine ⟨⟨?_, (hf b hb).2⟩, Heap.lt_size (old b o e)⟩
    rw [hH3, upd_ne (by rw [hD]; exact Nat.ne_of_lt lt)]
    exact (hf b hb).1
  have I4 := block_start I3 ok hN f3
  have B1 := hg s3 H3 s3.heap.objs.size (cellsFrom (s3.heap.objs.size + 1) sc.names (cloFrom X.env.cells sc.names [])) fp
  have B2 := ht s3 H3 s3.heap.objs.size (cellsFrom (s3.heap.objs.size + 1) sc.names (cloFrom X.env.cells sc.names [])) fp
  have B3 := hb s3 H3 s3.heap.objs.size (cellsFrom (s3.heap.objs.size + 1) sc.names (cloFrom X.env.cells sc.names [])) fp D
  have st4 : tn 0 (pushCells (s3.heap.push { cls := .type "dict", data := .dict #[] }) sc.names) := T.keep _ _ _ st fun b _ o e => pushCells_keeps _ _ _ _ (Heap.get?_push_of_some _ (old b o e))
  have hf4 : ∀ b ∈ fp, FpOk (X.blk s3 H3 sc (compEnvC sc (cellsFrom (s3.heap.objs.size + 1) sc.names (cloFrom X.env.cells sc.names [])) s3.heap.objs.size X.env) fp) [] H3 b := fun b hb =>
    ⟨(f3 b hb).1.1, (I4.ok.exf b hb).1, I4.ok.exfs b hb, .inl hb, fun x c e => (I4.ok.exf b hb).2 x c e, fun p hp => by cases hp⟩
  rw [← hH3] at q3
  have loop := clause_run (pins := []) (X := X.blk s3 H3 sc (compEnvC sc (cellsFrom (s3.heap.objs.size + 1) sc.names (cloFrom X.env.cells sc.names [])) s3.heap.objs.size X.env) fp) hc (fun _ _ h => h) (hC (.ref it) (.ref D) _) B1 B2 B3 hw T I4 st4 hf4 (by unfold tLp at q3 ⊢; rw [wipe_wipe]; exact q3)
  -- behind the loop: the def's own context again, and the block's frame let go
  have fin : ∀ s4 : Shared, (∃ H4, Inv (X.blk s3 H3 sc (compEnvC sc (cellsFrom (s3.heap.objs.size + 1) sc.names (cloFrom X.env.cells sc.names [])) s3.heap.objs.size X.env) fp) [] (wipe (wipe σ (own.map (·.2))) (own.map (·.2))) H4 s4 ∧ (∀ b ∈ fp, H4 b = none) ∧ Q (.ref D) H4) →
      ∃ m, s4.heap.Ns s3.heap.objs.size m ∧ ∀ h', Heap.SameBut s3.heap.objs.size s4.heap h' → EP X pins σ Q (.ref D) { s4 with heap := h' } := by
    rintro s4 ⟨H4, I5, _, z⟩
    obtain ⟨m, ns, _⟩ := I5.loc
    refine ⟨m, ns, fun h' sb => ?_⟩
    have I6 : Inv X pins σ H4 s4 := I3.call' (ch := fp) I5.os I5.base I5.hok I5.bare fun b hb => by
      obtain ⟨_, a1, _, a3, a4, a5⟩ := (f3 b hb).1
      exact ⟨a3, a1, a4, a5⟩
    obtain ⟨a0, a1, _, a3, a4, a5⟩ := I3.fpOk (H' := H4) (Nat.le_refl _) I5.free
    exact ⟨.ref D, H4, I6.turned (t' := s4.toks) (fun b o hb e => (sb.2 b hb).trans e) a0 a1 a3 a4 a5, rfl, z⟩
  subst hD; subst hs3
  refine codeAny_mono (clause_start (k := 0) rfl rfl loop (T.self _ 0 _ _ _ st4 loop)) fun r s4 h4 => ?_
  obtain ⟨rfl, h⟩ := h4
  exact fin s4 h
/-- {elt for tg in src if ..} of ints -/
theorem pe_sci1 {elt tg src : Expr} {ifs : List Expr} {sc : Scope} {pos : Pos} {own : List (Str × Nat)} {wi : TI} {g : TG} {tt : TT} {te : TE} (hc : X.calm = true) (hN : X.N.Nodup) (hi : PI X tg src wi) (ok : BlkOk X.N X.env.scope sc own)
    (hg : InBlk X sc fun B => PG B tg g) (ht : InBlk X sc fun B => PTs B ifs tt) (he : InBlk X sc fun B => PE B elt te) (hs : ∀ x, foldedSetIterable src X.env x = pure x := by intro _; rfl) : PE X (.SetComp elt [⟨tg, src, ifs, 0⟩] sc pos) (tScG X.w wi g tt (fun D => tAdd X.w D te) (own.map (·.2))) :=
  pe_scG (rest := []) (wb := []) hc hN hi ok (fun _ h => by cases h) (fun it acc env => turn_s1 ..) hg ht (fun s H C cl fp D => pb_add (fun _ _ h => h) (he s H C cl fp)) hs
/-- {elt for tg in src if .. for tg1 in src1 if ..} of ints -/
theorem pe_sci2 {elt tg src tg1 src1 : Expr} {ifs ifs1 : List Expr} {sc : Scope} {pos : Pos} {own : List (Str × Nat)} {vs1 : List Nat} {wi wi1 : TI} {g g1 : TG} {tt tt1 : TT} {te : TE} (hc : X.calm = true) (hN : X.N.Nodup) (hi : PI X tg src wi) (ok : BlkOk X.N X.env.scope sc own) (hv : ∀ j ∈ vs1, j ∈ own.map (·.2))
    (hg : InBlk X sc fun B => PG B tg g) (ht : InBlk X sc fun B => PTs B ifs tt) (hi1 : InBlk X sc fun B => PI B tg1 src1 wi1) (hg1 : InBlk X sc fun B => PG B tg1 g1) (ht1 : InBlk X sc fun B => PTs B ifs1 tt1) (he : InBlk X sc fun B => PE B elt te)
    (hs : ∀ x, foldedSetIterable src X.env x = pure x := by intro _; rfl) (hs1 : ∀ env x, foldedSetIterable src1 env x = pure x := by intro _ _; rfl) :
    PE X (.SetComp elt [⟨tg, src, ifs, 0⟩, ⟨tg1, src1, ifs1, 0⟩] sc pos) (tScG X.w wi g tt (fun D => tIn wi1 g1 tt1 (tAdd X.w D te) vs1) (own.map (·.2))) :=
  pe_scG (rest := [⟨tg1, src1, ifs1, 0⟩]) (wb := vs1) hc hN hi ok hv (fun it acc env => turn_s2a ..) hg ht
    (fun s H C cl fp D => pb_in (k := 1) hc (fun _ _ h => h) rfl (fun it => turn_s2b ..) (hs1 _) (hi1 s H C cl fp) (hg1 s H C cl fp) (ht1 s H C cl fp) (pb_add (fun _ _ h => h) (he s H C cl fp)) (fun _ h => by cases h)) hs
end
end Co

set_option Elab.async false
set_option linter.all false
set_option maxRecDepth 100000
set_option maxHeartbeats 4000000
namespace Co
open PySem PySem.Spec PyProof.Rows L2
/-! ### zip of a text and a tuple -/
def ItzST (K : PySem.W.Frag) (x : Str) (b : Addr) : It :=
  ⟨fun i H => ∃ (ys : List V), SqT K H b ys ∧ i < x.cps.size ∧ i < ys.length,
    fun i H v H' => ∃ T c y, v = .ref T ∧ H T = none ∧ H' = upd H T (.tup [.str ⟨#[c]⟩, y]) ∧ x.cps[i]? = some c ∧ ∀ ys, SqT K H b ys → ys[i]? = some y,
    fun i H => ∃ ys : List V, SqT K H b ys ∧ i ≤ x.cps.size ∧ i ≤ ys.length ∧ (i = x.cps.size ∨ i = ys.length)⟩
/-- the five objects of such a zip, as they stand before its turn `i` -/
structure ZAt (x : Str) (tk0 : Tok) (b z TI TO i1 i2 : Addr) (i : Nat) (h : Heap) : Prop where
  zip : IsZip h z TI TO .none
  ins : IsTupOf2 h TI (.ref i1) (.ref i2)
  outs : ∃ x y, IsTupOf2 h TO x y
  txt : h.IsStrIter i1 (strIterType x) x tk0 i
  tup : h.IsTupleIter i2 b i
/-- what is asked of each of five may be asked of one after the other -/
theorem all5 {p : Addr → Prop} {a b c d e : Addr} (ha : p a) (hb : p b) (hc : p c) (hd : p d) (he : p e) : ∀ y, y ∈ [a, b, c, d, e] → p y := by
  simpa using ⟨ha, hb, hc, hd, he⟩
theorem no5 {a b c d e y : Addr} (h : y ∉ [a, b, c, d, e]) : y ≠ a ∧ y ≠ b ∧ y ≠ c ∧ y ≠ d ∧ y ≠ e := by
  simpa [not_or] using h
theorem ZAt.small {x : Str} {tk0 : Tok} {b z TI TO i1 i2 : Addr} {i : Nat} {h : Heap} (q : ZAt x tk0 b z TI TO i1 i2 i h) : ∀ c, c ∈ [z, TI, TO, i1, i2] → c < h.objs.size := by
  obtain ⟨_, _, q3⟩ := q.outs
  obtain ⟨_, q4, _⟩ := q.txt
  obtain ⟨_, q5, _⟩ := q.tup
  exact all5 (Heap.lt_size q.zip) (Heap.lt_size q.ins) (Heap.lt_size q3) (Heap.lt_size q4) (Heap.lt_size q5)
theorem sep_of {z TI TO i1 i2 b : Addr} (D : ZipApart z TI TO i1 i2 b b) : ZipSep2 z TI TO i1 i2 [i1] [i2, b] := by
  have h1 := D.i1z.symm
  have h2 := D.i2z.symm
  have h3 := D.l1z.symm
  have h4 := D.l1TO.symm
  have h5 := D.l1i1.symm
  have h6 := D.i12.symm
  constructor <;> simp [D.TIz, D.TOz, D.TITO, D.TIi1, D.TIi2, D.TOi1, D.TOi2, D.i12, h1, h2, h3, h4, h5, h6]
theorem turn_zipST {P : Program} {w : World} {K : PySem.W.Frag} {elts : List Expr} {kk : Nat} {tpos : Pos} {x : Str} {tk0 : Tok} {b z TI TO i1 i2 : Addr} (D : ZipApart z TI TO i1 i2 b b) :
    Turn P w K (.Tuple elts kk tpos) (ItzST K x b) [z, TI, TO, i1, i2] z (ZAt x tk0 b z TI TO i1 i2) where
  mem := List.mem_cons_self
  obj := fun i h q => by
    obtain ⟨_, _, q3⟩ := q.outs
    obtain ⟨_, q4, _, d4⟩ := q.txt
    obtain ⟨_, q5, _, d5⟩ := q.tup
    refine all5 ⟨_, q.zip, ?_⟩ ⟨_, q.ins, ?_⟩ ⟨_, q3, ?_⟩ ⟨_, q4, ?_⟩ ⟨_, q5, ?_⟩ <;> intro v e <;> simp_all
  keep := fun i h h' q k => by
    have k' : ∀ c, c ∈ [z, TI, TO, i1, i2] → ∀ o, h.get? c = some o → h'.get? c = some o := k
    obtain ⟨u, v, q3⟩ := q.outs
    obtain ⟨o4, q4, r4⟩ := q.txt
    exact ⟨k' _ (by simp) _ q.zip, k' _ (by simp) _ q.ins, ⟨u, v, k' _ (by simp) _ q3⟩, ⟨o4, k' _ (by simp) _ q4, r4⟩, q.tup.at (k' _ (by simp))⟩
  item := by
    rintro X rfl rfl rfl hc i pins s σ H E I hf q ⟨ys, hy, l1, l2⟩
    obtain ⟨vs, rv, tv, _⟩ := I.tuple hy
    obtain ⟨_, _, q3⟩ := q.outs
    have hd : X.A.in1.handled = none := I.ok.hd hc
    obtain ⟨u, hu, ru⟩ := rv.get (List.getElem?_eq_getElem l2)
    have lv : i < vs.toArray.size := by
      have := (List.getElem?_eq_some_iff.mp hu).1
      simpa using this
    refine wpAny_pyNext_zipD2_item (sep_of D) (Draws.text hd i1 x tk0) (Draws.tuple hd i2 b D.l1i2 vs.toArray) q.zip q.ins q3 q.txt ⟨q.tup, tv⟩ l1 lv fun a1 a2 h1 t1 P1 P2 z1 o1 f1 f2 new _ kp => ?_
    obtain ⟨c, tc, hx, rfl⟩ := P1
    obtain rfl : u = a2 := by
      have : vs[i]? = some a2 := by simpa using P2
      simpa [hu] using this
    refine ⟨_, rfl, wpAny_letOwnedTupleGo_zip (s := { s with heap := h1, toks := t1 }) z1 fun h2 z2 sb => ?_⟩
    have sm := q.small
    have kp2 : ∀ a o, a ∉ [z, TI, TO, i1, i2] → s.heap.get? a = some o → h2.get? a = some o := fun a o na e => by
      obtain ⟨n1, _, n3, n4, n5⟩ := no5 na
      by_cases hb : a = TI
      · exact absurd hb (no5 na).2.1
      · exact (sb.2 a n1).trans (kp a o n1 n3 n4 n5 e)
    have nt : h2.get? s.heap.objs.size = some { cls := .type "tuple", data := .seq #[.str ⟨#[c]⟩ tc, u] } :=
      (sb.2 _ (Nat.ne_of_gt (sm z (by simp)))).trans new
    have pair : ObjOk X.prog X.w (upd H s.heap.objs.size (.tup [.str ⟨#[c]⟩, ys[i]])) h2 s.heap.objs.size (.tup [.str ⟨#[c]⟩, ys[i]]) :=
      ⟨(by decide : 2 ≤ sizeLine), [.str ⟨#[c]⟩ tc, u], .cons ⟨tc, rfl⟩ (.cons ru .nil), ⟨_, nt, rfl, _, rfl⟩⟩
    have J : L2.Inv X pins σ (upd H s.heap.objs.size (.tup [.str ⟨#[c]⟩, ys[i]])) { s with heap := h2, toks := t1 } :=
      I.turnedNew (t' := t1) (ch := [z, TI, TO, i1, i2]) kp2 hf (Nat.le_refl _) pair
    obtain ⟨ob, g1, r1⟩ := f1
    refine ⟨.ref s.heap.objs.size, _, J, rfl, ⟨_, c, ys[i], rfl, I.hok.fresh (Nat.le_refl _), rfl, hx, fun l hl => ?_⟩,
      { zip := z2, ins := (sb.2 _ D.TIz).trans (kp _ _ D.TIz D.TITO D.TIi1 D.TIi2 q.ins), outs := ⟨_, u, (sb.2 _ D.TOz).trans o1⟩, txt := ⟨ob, (sb.2 _ D.i1z).trans g1, r1⟩, tup := f2.1.at fun o e => (sb.2 _ D.i2z).trans e }, fun a ha => ?_⟩
    · obtain rfl := I.tuple_inj hl hy
      exact List.getElem?_eq_getElem l2
    · exact (upd_ne (Nat.ne_of_lt (sm a ha))).trans (hf a ha).1
  done := by
    rintro X rfl rfl rfl hc i pins s σ H E I hf q ⟨ys, hy, l1, l2, l3⟩
    obtain ⟨vs, rv, tv, _⟩ := I.tuple hy
    obtain ⟨_, _, q3⟩ := q.outs
    have hd : X.A.in1.handled = none := I.ok.hd hc
    have e2 : vs.toArray.size = ys.length := by simpa using rv.length.symm
    refine wpAny_pyNext_zipD2_end (sep_of D) (Draws.text hd i1 x tk0) (Draws.tuple hd i2 b D.l1i2 vs.toArray) q.zip q.ins q3 q.txt ⟨q.tup, tv⟩ l1 (by omega) (by omega) fun h' tk kp => ⟨rfl, I.turnedL (t' := tk) (ch := [z, TI, TO, i1, i2]) (fun a o na e => ?_) hf⟩
    obtain ⟨n1, _, n3, n4, n5⟩ := no5 na
    exact kp a o n1 n3 n4 n5 e
  self := fun _ _ _ _ _ q h => wpAny_pyIter_zip q.zip h
def iZipST (K : PySem.W.Frag) (ta : TA) : TI := fun σ H R => ta σ H fun vs H1 => ∃ x b ys, vs = [.str x, .ref b] ∧ SqT K H1 b ys ∧ R (ItzST K x b) H1
theorem pi_zipST {X : Cx} {e e2 : Expr} {ta : TA} {p pos tpos : Pos} {elts : List Expr} {kk : Nat} (hg : Gl X "zip") (hm : X.mg "zip" = none) (ha : PA X [e, e2] ta)
    (hs : starEach [e, e2] X.env = (false, eval e X.env) :: starEach [e2] X.env := by rfl) (hpl : (backTo pos (starEach [e2] X.env)).any (·.1) = false := by rfl) :
    PI X (.Tuple elts kk tpos) (.Call (.Name "zip" p) [e, e2] [] pos) (iZipST X.K ta) where
  run pins s σ H R I h := by
    have go := ha.run pos pins s σ H _ I h
    refine Call_ (ld_blt I hg hm PyProof.Rows.boot_zip (PyProof.Rows.callWith_type1 (thn go ?_) hs hpl))
    rintro us s1 ⟨vs, H1, J, r1, x, b, ys, rfl, hy, q⟩
    match us, r1 with
    | [_, _], .cons ⟨tk0, rfl⟩ (.cons rfl .nil) =>
      obtain ⟨its, _, tv, _⟩ := J.tuple hy
      obtain ⟨_, hb, _⟩ := id tv
      have lb := Heap.lt_size hb
      let n := s1.heap.objs.size
      have up : ∀ c, c ∈ [n + 4, n + 2, n + 3, n, n + 1] → n ≤ c := all5 (by omega) (by omega) (by omega) (by omega) (by omega)
      refine zip_begins2 (begins_text x tk0) (begins_tuple b its.toArray) trivial (show s1.heap.IsTuple b its.toArray from tv) fun h' q1 q2 q3 q4 q5 _ kp => wpAny_pyIter_zip q1 ?_
      exact ⟨n + 4, [n + 4, n + 2, n + 3, n, n + 1], _, _, H1, rfl, J.kept (t' := s1.toks) kp, turn_zipST (PySem.W.ktu_apart n b b lb lb),
        ⟨q1, q2, ⟨_, _, q3⟩, ⟨_, q4, rfl, rfl⟩, ⟨_, q5, rfl, rfl⟩⟩, fun c hc => J.fpOk (up c hc) (J.hok.fresh (up c hc)), q⟩

open PpSet
theorem pg_tupK {X : Cx} {K' : PySem.W.Frag} {es : List Expr} {k : Nat} {t : TGs} {n : Nat} {pos : Pos} (hK : X.K = K') (hc : X.calm = true) (h : PGs X es t)
    (hn : (assignEach es X.env).length = n := by rfl) (hst : (assignEach es X.env).findIdx? (·.1) = none := by rfl) : PG X (.Tuple es k pos) (gTup K' n t) := by
  subst hK
  exact pg_tup hc h hn hst
section
variable {X : Cx} {K' : PySem.W.Frag}
theorem op_in_seqK (hK : X.K = K') : OpR X (compareOp .In) (rIn K' false) := by subst hK; exact op_in_seq
theorem op_notIn_seqK (hK : X.K = K') : OpR X (compareOp .NotIn) (rIn K' true) := by subst hK; exact op_notIn_seq
theorem ix_listK (hK : X.K = K') : IxR X (rIxL K') := by subst hK; exact ix_list
theorem ix_tupK (hK : X.K = K') : IxR X (rIxT K') := by subst hK; exact ix_tup
theorem call_lenQK (hK : X.K = K') : CallR X (.builtin "len") (rLenQ K') := by subst hK; exact call_lenQ
end
/-! ### readings of these -/
def kZ (K : PySem.W.Frag) (R : It → Hp → Prop) : List V → Hp → Prop := fun vs H1 => ∃ x b ys, vs = [.str x, .ref b] ∧ SqT K H1 b ys ∧ R (ItzST K x b) H1
theorem w_zST {K : PySem.W.Frag} {ta : TA} {σ : L2.St} {H : Hp} {R : It → Hp → Prop} (q : ta σ H (kZ K R)) : iZipST K ta σ H R := q
theorem w_forZ {K : PySem.W.Frag} {g : TG} {tb : TS} {D : Ends} {σ : L2.St} {H : Hp} {x : Str} {b : Addr} (ys : List V) (Pv : Nat → L2.St → Hp → Prop) (hq : SqT K H b ys) (hle : x.cps.size = ys.length) (h0 : Pv 0 σ H) (hl : ∀ i σ H, Pv i σ H → SqT K H b ys)
    (hs : ∀ i c y T σ H H', x.cps[i]? = some c → ys[i]? = some y → Pv i σ H → H T = none → Same H H' → H' T = some (.tup [.str ⟨#[c]⟩, y]) → g (.ref T) σ H' fun σ2 H2 => tb { D with nx := Pv (i + 1), ct := Pv (i + 1), bk := D.nx } σ2 H2)
    (hd : ∀ σ H, Pv ys.length σ H → D.nx σ H) : kZ K (kFor g tb D σ) [.str x, .ref b] H := by
  refine ⟨x, b, ys, rfl, hq, fun i m σ H => m = ys.length - i ∧ i ≤ ys.length ∧ Pv i σ H, ⟨ys.length, by simp, Nat.zero_le _, h0⟩, ?_⟩
  rintro i m σ H ⟨rfl, hi, p⟩
  have q := hl i σ H p
  by_cases hlt : i < ys.length
  · refine .inr ⟨⟨ys, q, by omega, hlt⟩, Pv (i + 1), fun σ' H' p' => ⟨ys.length - (i + 1), by omega, rfl, hlt, p'⟩, fun v H' y => ?_⟩
    obtain ⟨T, c, y, rfl, nT, rfl, hc, hy⟩ := y
    exact hs i c y T σ H _ hc (hy ys q) p nT (Same.new nT) upd_same
  · have e : i = ys.length := by omega
    subst e
    exact .inl ⟨⟨ys, q, by omega, Nat.le_refl _, .inr rfl⟩, hd σ H p⟩
theorem w_lcZ {K : PySem.W.Frag} {g : TG} {tt : TT} {te : TE} {vs : List Nat} {σ : L2.St} {H : Hp} {Q : VK} {x : Str} {b : Addr} (ys : List V) (Pv : Addr → Nat → Hp → Prop) (hq : SqT K H b ys) (hle : x.cps.size = ys.length) (h0 : ∀ D, H D = none → Pv D 0 (upd H D (.lst []))) (hl : ∀ D i H, Pv D i H → SqT K H b ys)
    (hs : ∀ D i c y T H H', x.cps[i]? = some c → ys[i]? = some y → Pv D i H → H T = none → Same H H' → H' T = some (.tup [.str ⟨#[c]⟩, y]) → g (.ref T) (wipe σ vs) H' fun σ2 H2 => wipe σ2 vs = wipe σ vs ∧ tt σ2 H2 fun b H3 =>
      if b = true then te σ2 H3 fun y H4 => ∃ acc, H4 D = some (.lst acc) ∧ acc.length < sizeLine ∧ Pv D (i + 1) (upd H4 D (.lst (acc ++ [y]))) else Pv D (i + 1) H3) (hd : ∀ D H', H D = none → Pv D ys.length H' → Q (.ref D) H') : kZ K (kLc g tt te vs σ Q) [.str x, .ref b] H := by
  refine ⟨x, b, ys, rfl, hq, fun D nD => ⟨fun i m H => m = ys.length - i ∧ i ≤ ys.length ∧ Pv D i H, ⟨ys.length, by simp, Nat.zero_le _, h0 D nD⟩, ?_⟩⟩
  rintro i m H' ⟨rfl, hi, p⟩
  have q := hl D i H' p
  by_cases hlt : i < ys.length
  · refine .inr ⟨⟨ys, q, by omega, hlt⟩, Pv D (i + 1), fun H2 p' => ⟨ys.length - (i + 1), by omega, rfl, hlt, p'⟩, fun v H2 y => ?_⟩
    obtain ⟨T, c, y, rfl, nT, rfl, hc, hy⟩ := y
    exact hs D i c y T H' _ hc (hy ys q) p nT (Same.new nT) upd_same
  · have e : i = ys.length := by omega
    subst e
    exact .inl ⟨⟨ys, q, by omega, Nat.le_refl _, .inr rfl⟩, hd D H' nD p⟩
def kSt (R : It → Hp → Prop) : V → Hp → Prop := fun v H1 => ∃ x, v = .str x ∧ R (Its x) H1
theorem w_iSt {te : TE} {σ : L2.St} {H : Hp} {R : It → Hp → Prop} (q : te σ H (kSt R)) : iStr te σ H R := q
theorem w_forS {g : TG} {tb : TS} {D : Ends} {σ : L2.St} {H : Hp} {x : Str} (Pv : Nat → L2.St → Hp → Prop) (h0 : Pv 0 σ H)
    (hs : ∀ i c σ H, x.cps[i]? = some c → Pv i σ H → g (.str ⟨#[c]⟩) σ H fun σ2 H2 => tb { D with nx := Pv (i + 1), ct := Pv (i + 1), bk := D.nx } σ2 H2)
    (hd : ∀ σ H, Pv x.cps.size σ H → D.nx σ H) : kSt (kFor g tb D σ) (.str x) H := by
  refine ⟨x, rfl, fun i m σ H => m = x.cps.size - i ∧ i ≤ x.cps.size ∧ Pv i σ H, ⟨x.cps.size, by simp, Nat.zero_le _, h0⟩, ?_⟩
  rintro i m σ H ⟨rfl, hi, p⟩
  by_cases hlt : i < x.cps.size
  · refine .inr ⟨hlt, Pv (i + 1), fun σ' H' p' => ⟨x.cps.size - (i + 1), by omega, rfl, hlt, p'⟩, fun v H' y => ?_⟩
    obtain ⟨rfl, c, hc, rfl⟩ := y
    exact hs i c σ _ hc p
  · have e : i = x.cps.size := by omega
    subst e
    exact .inl ⟨Nat.le_refl _, hd σ H p⟩
/-- t[1:] of a tuple of two and more -/
theorem w_sl {r : V → Option Int → Option Int → Hp → VK → Prop} {te : TE} {tl th : TO} {σ : L2.St} {H : Hp} {Q : VK} (q : te σ H fun x H1 => tl σ H1 fun l H2 => th σ H2 fun u H3 => r x l u H3 Q) : tSl r te tl th σ H Q := q
theorem w_part {te : TE} {σ : L2.St} {H : Hp} {Q : Option Int → Hp → Prop} (q : te σ H fun x H1 => ∃ i, x = .int i ∧ Q (some i) H1) : tPart te σ H Q := q
theorem w_noPart {σ : L2.St} {H : Hp} {Q : Option Int → Hp → Prop} (q : Q none H) : tNoPart σ H Q := q
theorem w_exI {i : Int} {Q : Int → Prop} (q : Q i) : ∃ j, V.int i = .int j ∧ Q j := ⟨i, rfl, q⟩
theorem w_rSl1 {K : PySem.W.Frag} {H : Hp} {Q : VK} {a : Addr} {v y : V} {r : List V} (h : SqT K H a (v :: y :: r)) (q : ∀ p H', H p = none → Same H H' → H' p = some (.tup (y :: r)) → Q (.ref p) H') : rSlA K (.ref a) (some 1) none H Q := by
  refine ⟨a, _, rfl, h, fun ⟨e, _⟩ => ?_, fun _ p np => ?_⟩
  · rw [show HT.sIx (v :: y :: r).length 0 (some 1) = min 1 (v :: y :: r).length from HT.sIx_nat _ 0 1] at e
    simp at e
  · refine q p _ np (Same.new np) ?_
    have e : cutV (v :: y :: r) (some 1) none = y :: r := by
      unfold cutV
      rw [show HT.sIx (v :: y :: r).length 0 (some 1) = min 1 (v :: y :: r).length from HT.sIx_nat _ 0 1, HT.sIx_none]
      rw [show min 1 (v :: y :: r).length = 1 by simp]
      simp
    rw [e]; exact upd_same
def kScG (w : World) (g : TG) (tt : TT) (tb : Addr → TBd) (vs : List Nat) (σ : L2.St) (Q : VK) : It → Hp → Prop := fun J H1 => ∀ D, H1 D = none → tLp g tt (tb D) vs σ (Q (.ref D)) J (upd H1 D (SetO w D (fun _ => false) 0))
theorem w_sc {w : World} {wi : TI} {g : TG} {tt : TT} {tb : Addr → TBd} {vs : List Nat} {σ : L2.St} {H : Hp} {Q : VK} (q : wi σ H (kScG w g tt tb vs σ Q)) : tScG w wi g tt tb vs σ H Q := q
/-- a clause's loop over a list or a tuple, by an invariant -/
theorem w_lpG {It0 : It} {g : TG} {tt : TT} {tb : TBd} {vs : List Nat} {σ : L2.St} {H : Hp} {Z : Hp → Prop} (xs : List V) (Pv : Nat → Hp → Prop) (h0 : Pv 0 H) (go : ∀ i H, i < xs.length → Pv i H → It0.go i H) (stop : ∀ H, Pv xs.length H → It0.stop xs.length H) (yld : ∀ i H x H', Pv i H → It0.yld i H x H' → H' = H ∧ xs[i]? = some x)
    (hs : ∀ i x H, xs[i]? = some x → Pv i H → g x (wipe σ vs) H fun σ2 H2 => wipe σ2 vs = wipe σ vs ∧ tt σ2 H2 fun b H3 => if b = true then tb σ2 H3 (Pv (i + 1)) else Pv (i + 1) H3) (hd : ∀ H, Pv xs.length H → Z H) : tLp g tt tb vs σ Z It0 H := by
  refine ⟨fun i m H => m = xs.length - i ∧ i ≤ xs.length ∧ Pv i H, ⟨xs.length, by simp, Nat.zero_le _, h0⟩, ?_⟩
  rintro i m H' ⟨rfl, hi, p⟩
  rcases Nat.lt_or_ge i xs.length with lt | ge
  · refine .inr ⟨go i H' lt p, Pv (i + 1), fun H2 p2 => ⟨xs.length - (i + 1), by omega, rfl, lt, p2⟩, fun v H2 y => ?_⟩
    obtain ⟨rfl, e⟩ := yld i H' v H2 p y
    exact hs i v _ e p
  · obtain rfl : i = xs.length := by omega
    exact .inl ⟨stop H' p, hd H' p⟩
theorem w_lpL {K : PySem.W.Frag} {g : TG} {tt : TT} {tb : TBd} {vs : List Nat} {σ : L2.St} {H : Hp} {Z : Hp → Prop} {a : Addr} (xs : List V) (Pv : Nat → Hp → Prop) (h0 : Pv 0 H) (hl : ∀ i H, Pv i H → SqL K H a xs)
    (hs : ∀ i x H, xs[i]? = some x → Pv i H → g x (wipe σ vs) H fun σ2 H2 => wipe σ2 vs = wipe σ vs ∧ tt σ2 H2 fun b H3 => if b = true then tb σ2 H3 (Pv (i + 1)) else Pv (i + 1) H3) (hd : ∀ H, Pv xs.length H → Z H) : tLp g tt tb vs σ Z (Itl K a) H :=
  w_lpG xs Pv h0 (fun i H lt p => ⟨xs, xs[i], hl i H p, by simp [lt]⟩) (fun H p => ⟨xs, hl _ H p, Nat.le_refl _⟩) (fun i H x H' p y => ⟨y.1, y.2 xs (hl i H p)⟩) hs hd
theorem w_lpT {K : PySem.W.Frag} {g : TG} {tt : TT} {tb : TBd} {vs : List Nat} {σ : L2.St} {H : Hp} {Z : Hp → Prop} {a : Addr} (xs : List V) (Pv : Nat → Hp → Prop) (h0 : Pv 0 H) (hl : ∀ i H, Pv i H → SqT K H a xs)
    (hs : ∀ i x H, xs[i]? = some x → Pv i H → g x (wipe σ vs) H fun σ2 H2 => wipe σ2 vs = wipe σ vs ∧ tt σ2 H2 fun b H3 => if b = true then tb σ2 H3 (Pv (i + 1)) else Pv (i + 1) H3) (hd : ∀ H, Pv xs.length H → Z H) : tLp g tt tb vs σ Z (Itt K a) H :=
  w_lpG xs Pv h0 (fun i H lt p => ⟨xs, xs[i], hl i H p, by simp [lt]⟩) (fun H p => ⟨xs, hl _ H p, Nat.le_refl _⟩) (fun i H x H' p y => ⟨y.1, y.2 xs (hl i H p)⟩) hs hd
theorem w_scL {K : PySem.W.Frag} {w : World} {g : TG} {tt : TT} {te : TE} {vs : List Nat} {σ : L2.St} {H : Hp} {Q : VK} {a : Addr} (xs : List V) (Pv : Addr → Nat → Hp → Prop) (hS : SqL K H a xs) (h0 : ∀ D, H D = none → Pv D 0 (upd H D (SetO w D (fun _ => false) 0))) (hl : ∀ D i H, Pv D i H → SqL K H a xs)
    (hs : ∀ D i x H, xs[i]? = some x → Pv D i H → g x (wipe σ vs) H fun σ2 H2 => wipe σ2 vs = wipe σ vs ∧ tt σ2 H2 fun b H3 => if b = true then te σ2 H3 fun y H4 => ∃ (c : Int) (S : Int → Bool) (n : Nat), y = .int c ∧ H4 D = some (SetO w D S n) ∧ n + 1 < scanBound ∧ Pv D (i + 1) (upd H4 D (SetO w D (fun j => S j || decide (j = c)) (if S c = true then n else n + 1))) else Pv D (i + 1) H3)
    (hd : ∀ D H', H D = none → Pv D xs.length H' → Q (.ref D) H') : kIL K (kScG w g tt (fun D => tAdd w D te) vs σ Q) (.ref a) H :=
  ⟨a, rfl, ⟨_, hS⟩, fun D nD => w_lpL xs (Pv D) (h0 D nD) (hl D) (hs D) fun H' p => hd D H' nD p⟩
theorem asc_eq : ∀ {l m : List Int}, l.Pairwise (· < ·) → m.Pairwise (· < ·) → (∀ k, k ∈ l ↔ k ∈ m) → l = m
  | [], [], _, _, _ => rfl
  | [], y :: m, _, _, h => by have := (h y).mpr (by simp); simp at this
  | x :: l, [], _, _, h => by have := (h x).mp (by simp); simp at this
  | x :: l, y :: m, p, q, h => by
    rw [List.pairwise_cons] at p q
    have e : x = y := by
      have a := (h x).mp (by simp)
      have b := (h y).mpr (by simp)
      rw [List.mem_cons] at a b
      rcases a with a | a
      · exact a
      · rcases b with b | b
        · exact b.symm
        · have := q.1 x a; have := p.1 y b; omega
    subst e
    congr 1
    refine asc_eq p.2 q.2 fun k => ⟨fun hk => ?_, fun hk => ?_⟩
    · have := (h k).mp (List.mem_cons_of_mem _ hk)
      rw [List.mem_cons] at this
      rcases this with e | e
      · subst e; have := p.1 k hk; omega
      · exact e
    · have := (h k).mpr (List.mem_cons_of_mem _ hk)
      rw [List.mem_cons] at this
      rcases this with e | e
      · subst e; have := q.1 k hk; omega
      · exact e
/-! ### texts, indices, sets -/
def Evl0.rInSQ : R2 := fun x y H Q => ∃ (c : Nat) (z : Str), x = .str ⟨#[c]⟩ ∧ y = .str z ∧ Q (.bl (decide (c ∈ z.cps.toList))) H
theorem op_inSQ {X : Cx} : OpR X (compareOp .In) Evl0.rInSQ := op_in_sign
theorem w_m1 {r : V → List V → Hp → VK → Prop} {to te : TE} {σ : L2.St} {H : Hp} {Q : VK} (q : to σ H fun x H1 => (∃ a, x = .str a) ∧ te σ H1 fun y H2 => r x [y] H2 Q) : tM1 r to te σ H Q := q
theorem w_isS {a : Str} {B : Prop} (q : B) : (∃ b, V.str a = .str b) ∧ B := ⟨⟨a, rfl⟩, q⟩
def rStartsQ : V → List V → Hp → VK → Prop := fun x xs H Q => ∃ a b, x = .str a ∧ xs = [.str b] ∧ Q (.bl (Txt.startswith a b)) H
theorem mt_startsQ {X : Cx} : MtR X "str.startswith" rStartsQ := mt_startswith
theorem w_starts {a b : Str} {H : Hp} {Q : VK} (q : Q (.bl (Txt.startswith a b)) H) : rStartsQ (.str a) [.str b] H Q := ⟨a, b, rfl, rfl, q⟩
def rTIxQ (K : PySem.W.Frag) : V → List V → Hp → VK → Prop := fun x xs H Q => ∃ p, ∃ ys : List Str, ∃ z j, x = .ref p ∧ xs = [.str z] ∧ SqT K H p (ys.map V.str) ∧ ys[j]? = some z ∧ (∀ m, m < j → ys[m]? ≠ some z) ∧ Q (.int (j : Nat)) H
theorem mt_tupIxQ {X : Cx} : MtR X "tuple.index" (rTIxQ X.K) := mt_tup_index
theorem w_tix {K : PySem.W.Frag} {O : Addr} {ys : List Str} {z : Str} {j : Nat} {H : Hp} {Q : VK} (h : SqT K H O (ys.map V.str)) (h1 : ys[j]? = some z) (h2 : ∀ m, m < j → ys[m]? ≠ some z) (q : Q (.int (j : Nat)) H) : rTIxQ K (.ref O) [.str z] H Q := ⟨O, ys, z, j, rfl, rfl, h, h1, h2, q⟩
theorem w_aug {te : TE} {ti : TIp} {D : Ends} {σ : L2.St} {H : Hp} {i : Nat} {x : V} (h : σ[i]? = some (some x)) (q : te σ H fun y H1 => ti x y H1 fun z H2 => D.nx (σ.set i (some z)) H2) : tAug i te ti D σ H := ⟨x, h, q⟩
theorem w_ipI {f : Int → Int → Int} {i j : Int} {H : Hp} {Q : VK} (q : Q (.int (f i j)) H) : ipI f (.int i) (.int j) H Q := ⟨i, j, rfl, rfl, q⟩
theorem w_lenTs {K : PySem.W.Frag} {p : Addr} {xs : List V} {H : Hp} {Q : VK} (h : SqT K H p xs) (q : Q (.int (xs.length : Int)) H) : rLenQ K [.ref p] H Q := ⟨p, xs, rfl, .inr h, q⟩
theorem w_stR {K : PySem.W.Frag} {p : Addr} {xs : List V} {H : Hp} {B : List V → Prop} (h : H p = some (.lst xs)) (q : B xs) : ∃ p' xs', V.ref p = .ref p' ∧ (SqT K H p' xs' ∨ SqL K H p' xs') ∧ B xs' := ⟨p, xs, rfl, .inr (.of h), q⟩
theorem eqV_str {a b : Str} : eqV (.str a) (.str b) = (a == b) := rfl
theorem w_lix {K : PySem.W.Frag} {p : Addr} {ys : List Str} {z : Str} {j : Nat} {H : Hp} {Q : VK} (h : H p = some (.lst (ys.map V.str))) (h1 : ys[j]? = some z) (h2 : ∀ m, m < j → ys[m]? ≠ some z) (q : Q (.int (j : Nat)) H) : rIndex K (.ref p) [.str z] H Q := by
  refine ⟨p, ys.map V.str, .str z, j, .str z, rfl, rfl, .of h, rfl, ?_, ?_, ?_, fun m y hm hy => ?_, q⟩
  · rw [List.all_eq_true]
    intro v hv
    obtain ⟨s, _, rfl⟩ := List.mem_map.mp hv
    rfl
  · rw [List.getElem?_map, h1]; rfl
  · rw [eqV_str]; exact beq_self_eq_true z
  · rw [List.getElem?_map] at hy
    cases e : ys[m]? with
    | none => rw [e] at hy; cases hy
    | some s =>
      rw [e] at hy
      cases hy
      rw [eqV_str]
      exact beq_eq_false_iff_ne.mpr fun z' => h2 m hm (by rw [e, z'])
theorem _root_.L2.Same.sqT {K : PySem.W.Frag} {H H' : Hp} {a : Addr} {xs : List V} (e : Same H H') (h : SqT K H a xs) : SqT K H' a xs := by
  rcases h with (h | ⟨o, h⟩) | h
  · exact .inl (.inl (e _ _ h))
  · exact .inl (.inr ⟨o, e _ _ h⟩)
  · exact .inr h
theorem w_lenTn {K : PySem.W.Frag} {p : Addr} {xs : List V} {H : Hp} {Q : VK} (n : Nat) (h : SqT K H p xs) (e : xs.length = n) (q : Q (.int (n : Int)) H) : rLenQ K [.ref p] H Q := ⟨p, xs, rfl, .inr h, by rw [e]; exact q⟩
theorem w_bm {K : PySem.W.Frag} {T : String} {r : V → List V → Hp → VK → Prop} {to : TE} {t : TA} {σ : L2.St} {H : Hp} {Q : VK} (q : to σ H fun x H1 => tyV K T x H1 ∧ t σ H1 fun xs H2 => r x xs H2 Q) : tBM K T r to t σ H Q := q
theorem w_tyL {K : PySem.W.Frag} {p : Addr} {xs : List V} {H : Hp} {B : Prop} (h : H p = some (.lst xs)) (q : B) : tyV K "list" (.ref p) H ∧ B := ⟨.inl ⟨rfl, xs, .inl (.inl h)⟩, q⟩
theorem w_append {p : Addr} {xs : List V} {y : V} {H : Hp} {Q : VK} (h : H p = some (.lst xs)) (hl : xs.length < sizeLine) (q : ∀ H', H' p = some (.lst (xs ++ [y])) → But p H H' → Q .non H') : rAppend (.ref p) [y] H Q := ⟨p, xs, y, rfl, rfl, h, hl, q _ upd_same But.set⟩
def rListQ (K : PySem.W.Frag) : List V → Hp → VK → Prop := fun xs H Q => ∃ p ys, xs = [.ref p] ∧ (SqL K H p ys ∨ SqT K H p ys) ∧ ∀ l, H l = none → Q (.ref l) (upd H l (.lst ys))
theorem call_listQ {X : Cx} : CallR X (.type "list") (rListQ X.K) := call_list_of
theorem w_listT {K : PySem.W.Frag} {p : Addr} {ys : List V} {H : Hp} {Q : VK} (h : SqT K H p ys) (q : ∀ l H', H l = none → Same H H' → H' l = some (.lst ys) → Q (.ref l) H') : rListQ K [.ref p] H Q := ⟨p, ys, rfl, .inr h, fun l nl => q l _ nl (Same.new nl) upd_same⟩
theorem w_listL {K : PySem.W.Frag} {p : Addr} {ys : List V} {H : Hp} {Q : VK} (h : SqL K H p ys) (q : ∀ l H', H l = none → Same H H' → H' l = some (.lst ys) → Q (.ref l) H') : rListQ K [.ref p] H Q := ⟨p, ys, rfl, .inl h, fun l nl => q l _ nl (Same.new nl) upd_same⟩
def rTupQ (K : PySem.W.Frag) : List V → Hp → VK → Prop := fun xs H Q => ∃ p ys, xs = [.ref p] ∧ ((SqL K H p ys ∧ ∀ l, H l = none → Q (.ref l) (upd H l (.tup ys))) ∨ (SqT K H p ys ∧ Q (.ref p) H))
theorem call_tupQ {X : Cx} : CallR X (.type "tuple") (rTupQ X.K) := call_tuple_of
theorem w_tupL {K : PySem.W.Frag} {p : Addr} {ys : List V} {H : Hp} {Q : VK} (h : SqL K H p ys) (q : ∀ l H', H l = none → Same H H' → H' l = some (.tup ys) → Q (.ref l) H') : rTupQ K [.ref p] H Q := ⟨p, ys, rfl, .inl ⟨h, fun l nl => q l _ nl (Same.new nl) upd_same⟩⟩
theorem w_sortedSet {w : World} {a : Addr} {S : Int → Bool} {n : Nat} {H : Hp} {Q : VK} (h : H a = some (SetO w a S n)) (hn : n < 64) (q : ∀ (ns : List Int) (p : Addr) H', ns.Pairwise (· < ·) → (∀ k : Int, k ∈ ns ↔ S k = true) → ns.length = n → H p = none → Same H H' → H' p = some (.lst (ns.map V.int)) → Q (.ref p) H') : rSortedSet w [.ref a] H Q :=
  ⟨a, S, n, rfl, h, hn, fun ns p h1 h2 h3 np => q ns p _ h1 h2 h3 np (Same.new np) upd_same⟩
theorem w_star {K : PySem.W.Frag} {te : TE} {t : TA} {σ : L2.St} {H : Hp} {Q : List V → Hp → Prop} (q : te σ H fun x H1 => ∃ p xs, x = V.ref p ∧ (SqT K H1 p xs ∨ SqL K H1 p xs) ∧ t σ H1 fun ys H2 => Q (xs ++ ys) H2) : StX.tStar K te t σ H Q := q
theorem w_inSg {c : Nat} {z : Str} {H : Hp} {Q : VK} (q : Q (.bl (decide (c ∈ z.cps.toList))) H) : Evl0.rInSQ (.str ⟨#[c]⟩) (.str z) H Q := ⟨c, z, rfl, rfl, q⟩
theorem w_eqD {K : PySem.W.Frag} {x y : V} {d : PyData} {H : Hp} {Q : VK} (h1 : Dp K H x d) (h2 : Dp K H y d) (hs : SeqAt.shaped d = true) (q : Q (.bl true) H) : rEqD K x y H Q := ⟨d, d, h1, h2, hs, hs, by rw [SeqAt.eqv_refl _ (SeqAt.canLay_of_shaped hs)]; exact q⟩
theorem w_neD {K : PySem.W.Frag} {x y : V} {d : PyData} {H : Hp} {Q : VK} (h1 : Dp K H x d) (h2 : Dp K H y d) (hs : SeqAt.shaped d = true) (q : Q (.bl false) H) : rNeD K x y H Q := ⟨d, d, h1, h2, hs, hs, by rw [SeqAt.eqv_refl _ (SeqAt.canLay_of_shaped hs)]; exact q⟩
end Co

set_option Elab.async false
set_option linter.all false
set_option maxRecDepth 100000
set_option maxHeartbeats 4000000
namespace Co
open PySem PySem.Spec PyProof.Rows L2
open AutoSeq1 (wpAny_loadPart')
/-! ### enumerate of a tuple -/
abbrev tupIt (t : Addr) : Obj := { cls := .type "tuple_iterator", data := .fields #[.ref t, .int 0 0] }
abbrev enumOb (it : Addr) : Obj := { cls := .type "enumerate", data := .fields #[.none, .bool false, .ref it, rawInt 0, .none, .none] }
theorem iter_tup {prog : Program} {w : World} {A : Around} {E : Value → Shared → Prop} {s : Shared} {t : Addr} {items : Array Value} {Q : Value → Shared → Prop} (h : s.heap.IsTuple t items) (q : Q (.ref s.heap.objs.size) { s with heap := s.heap.push (tupIt t) }) : wpAny (model prog w) A (pyIter (.ref t)) Q E s :=
  (begins_tuple t items).iter prog w A E s Q h q
theorem meets_enumT (t : Addr) (o : Obj) (items : Array Value) (ho : o.cls = .type "tuple") :
    Meets (Builtin.«enumerate.__new__» ⟨[.type "enumerate", .ref t], []⟩) (fun _ R s => (s.heap.get? t = some o ∧ s.heap.IsTuple t items) ∧
      R (.ok (.ret (.ref (s.heap.push (tupIt t)).objs.size))) { s with heap := (s.heap.push (tupIt t)).push (enumOb s.heap.objs.size) }) :=
  .of_wp fun prog w A R s h => by
    obtain ⟨hp, g, d, tk, os⟩ := s; obtain ⟨⟨hl, hT⟩, h⟩ := h
    obtain ⟨c, dct, dt, sl⟩ := o
    replace ho : c = .type "tuple" := ho
    subst ho
    have hsub := sub_enumerate
    wp_walk using wpAny_loadPart' hl
    refine wpAny_stack_any fun st => wpAny_pure ?_
    split
    · rename_i c _ _ _ _ _
      cases (c == Value.type "enumerate")
      · wp_walk using wpAny_loadPart' hl, iter_tup hT
        exact ⟨_, rfl, h⟩
      · wp_walk using wpAny_loadPart' hl, iter_tup hT
        exact ⟨_, rfl, h⟩
    · wp_walk using wpAny_loadPart' hl, iter_tup hT
      exact ⟨_, rfl, h⟩
theorem call_enumT {prog : Program} {w : World} {A : Around} {E : Value → Shared → Prop} {s : Shared} {t : Addr} {items : Array Value} {Q : Value → Shared → Prop} (hT : s.heap.IsTuple t items)
    (q : ∀ h', IsEnum h' (s.heap.objs.size + 1) s.heap.objs.size 0 .none → h'.IsTupleIter s.heap.objs.size t 0 → (∀ b o, s.heap.get? b = some o → h'.get? b = some o) → Q (.ref (s.heap.objs.size + 1)) { s with heap := h' }) :
    wpAny (model prog w) A (call (.type "enumerate") [.ref t]) Q E s := by
  obtain ⟨o, ho, hc, hd⟩ := id hT
  refine callType_new F.called_enumerate (by decide) (F.typeCall_enumerate_1 _) (F.newCall_enumerate_1 _) (fun obj => F.args_object_init_2 obj _) F.entry_enumerate_new (meets_enumT t o items hc) ⟨⟨ho, hT⟩, ?_⟩
  have hz : (s.heap.push (tupIt t)).objs.size = s.heap.objs.size + 1 := Heap.size_push ..
  have he : IsEnum ((s.heap.push (tupIt t)).push (enumOb s.heap.objs.size)) (s.heap.objs.size + 1) s.heap.objs.size 0 .none := by
    have z := Heap.get?_push_size (s.heap.push (tupIt t)) (o := enumOb s.heap.objs.size) rfl
    rw [hz] at z; exact z
  show _ ∧ _
  rw [hz]
  exact ⟨⟨_, he, rfl⟩, q _ he ⟨_, Heap.get?_push_of_some _ (Heap.get?_push_size _ rfl), rfl, rfl⟩ fun b o x => Heap.get?_push_of_some _ (Heap.get?_push_of_some _ x)⟩
def IteT (K : PySem.W.Frag) (a : Addr) : It :=
  ⟨fun i H => ∃ xs x, SqT K H a xs ∧ xs[i]? = some x,
    fun i H v H' => ∃ T x, v = .ref T ∧ H T = none ∧ H' = upd H T (.tup [.int (i : Nat), x]) ∧ ∀ xs, SqT K H a xs → xs[i]? = some x,
    fun i H => ∃ xs, SqT K H a xs ∧ xs.length = i⟩
/-- the two objects of such an enumerate, as they stand before its turn `i` -/
structure EAt (a e it : Addr) (i : Nat) (h : Heap) : Prop where
  num : ∃ old, IsEnum h e it ((i : Nat) : Int) old
  tup : h.IsTupleIter it a i
theorem all2 {p : Addr → Prop} {a b : Addr} (ha : p a) (hb : p b) : ∀ y, y ∈ [a, b] → p y := by simpa using ⟨ha, hb⟩
theorem EAt.small {a e it : Addr} {i : Nat} {h : Heap} (q : EAt a e it i h) : ∀ c, c ∈ [e, it] → c < h.objs.size := by
  obtain ⟨_, q1⟩ := q.num
  obtain ⟨_, q2, _⟩ := q.tup
  exact all2 (Heap.lt_size q1) (Heap.lt_size q2)
theorem turn_enumT {P : Program} {w : World} {K : PySem.W.Frag} {elts : List Expr} {kk : Nat} {tpos : Pos} (a e it : Addr) (na : a ≠ it) (ne : e ≠ it) (nea : e ≠ a) :
    Turn P w K (.Tuple elts kk tpos) (IteT K a) [e, it] e (EAt a e it) where
  mem := List.mem_cons_self
  obj := fun i h q => by
    obtain ⟨_, q1⟩ := q.num
    obtain ⟨_, q2, _, d2⟩ := q.tup
    refine all2 ⟨_, q1, ?_⟩ ⟨_, q2, ?_⟩ <;> intro v z <;> simp_all
  keep := fun i h h' q k => by
    obtain ⟨old, q1⟩ := q.num
    exact ⟨⟨old, k e (by simp) _ q1⟩, q.tup.at (k it (by simp))⟩
  item := by
    rintro X rfl rfl rfl hc i pins s σ H E I hf q ⟨xs, x, hy, hx⟩
    obtain ⟨vs, rv, tv, _⟩ := I.tuple hy
    obtain ⟨old, q1⟩ := q.num
    have sm := q.small
    have hd : X.A.in1.handled = none := I.ok.hd hc
    obtain ⟨u, hu, ru'⟩ := rv.get hx
    have lv : i < vs.toArray.size := by
      have := (List.getElem?_eq_some_iff.mp hu).1
      simpa using this
    refine wpAny_pyNext_enum_itemD (Draws.tuple hd it a na vs.toArray) q1 ⟨q.tup, tv⟩ lv ne (by simpa using ⟨ne, nea⟩) fun y h1 t1 Py o1 f1 new _ kp => ?_
    obtain rfl : u = y := by
      have : vs[i]? = some y := by simpa using Py
      simpa [hu] using this
    refine ⟨_, rfl, wpAny_letOwnedTupleGo_enum (s := { s with heap := h1, toks := t1 + 1 }) o1 fun h2 o2 sb => ?_⟩
    have nt : h2.get? s.heap.objs.size = some { cls := .type "tuple", data := .seq #[.int i t1, u] } :=
      (sb.2 _ (Nat.ne_of_gt (sm e (by simp)))).trans new
    have pair : ObjOk X.prog X.w (upd H s.heap.objs.size (.tup [.int (i : Nat), x])) h2 s.heap.objs.size (.tup [.int (i : Nat), x]) :=
      ⟨(by decide : 2 ≤ sizeLine), [.int i t1, u], .cons ⟨_, rfl⟩ (.cons ru' .nil), ⟨_, nt, rfl, _, rfl⟩⟩
    have kp2 : ∀ c o, c ∉ [e, it] → s.heap.get? c = some o → h2.get? c = some o := fun c o nc z => by
      have nn : c ≠ e ∧ c ≠ it := by simpa [not_or] using nc
      exact (sb.2 c nn.1).trans (kp c o nn.1 nn.2 z)
    have J : L2.Inv X pins σ (upd H s.heap.objs.size (.tup [.int (i : Nat), x])) { s with heap := h2, toks := t1 + 1 } :=
      I.turnedNew (t' := t1 + 1) (ch := [e, it]) kp2 hf (Nat.le_refl _) pair
    refine ⟨.ref s.heap.objs.size, _, J, rfl, ⟨_, x, rfl, I.hok.fresh (Nat.le_refl _), rfl, fun l hl => by obtain rfl := I.tuple_inj hl hy; exact hx⟩, ⟨⟨u, by simpa using o2⟩, f1.1.at fun o z => (sb.2 it ne.symm).trans z⟩, fun c hc => (upd_ne (Nat.ne_of_lt (sm c hc))).trans (hf c hc).1⟩
  done := by
    rintro X rfl rfl rfl hc i pins s σ H E I hf q ⟨xs, hy, hx⟩
    obtain ⟨vs, rv, tv, _⟩ := I.tuple hy
    obtain ⟨old, q1⟩ := q.num
    have lv : vs.toArray.size = i := by simpa [hx] using rv.length.symm
    have hd : X.A.in1.handled = none := I.ok.hd hc
    obtain ⟨r0, r1, _, r3, r4, r5⟩ := hf it (by simp)
    exact wpAny_pyNext_enum_endD (Draws.tuple hd it a na vs.toArray) q1 ⟨by rw [lv]; exact q.tup, tv⟩ fun h' eb => ⟨rfl, I.turned (t' := s.toks) (fun b o hb z => eb b o hb z) r0 r1 r3 r4 r5⟩
  self := fun _ _ _ _ _ q h => by obtain ⟨_, q1⟩ := q.num; exact wpAny_pyIter_enum q1 h
def iEnumT (K : PySem.W.Frag) (ta : TA) : TI := fun σ H R => ta σ H fun vs H1 => ∃ a xs, vs = [.ref a] ∧ SqT K H1 a xs ∧ R (IteT K a) H1
theorem pi_enumT {X : Cx} {e : Expr} {ta : TA} {p pos tpos : Pos} {elts : List Expr} {kk : Nat} (hg : Gl X "enumerate") (hm : X.mg "enumerate" = none) (ha : PA X [e] ta) (hs : starEach [e] X.env = [(false, eval e X.env)] := by rfl) :
    PI X (.Tuple elts kk tpos) (.Call (.Name "enumerate" p) [e] [] pos) (iEnumT X.K ta) where
  run pins s σ H R I h := by
    have go := ha.run pos pins s σ H _ I h
    refine Call_ (ld_blt I hg hm boot_enumerate (PyProof.Rows.callWith_type1 (thn go ?_) hs rfl))
    rintro us s1 ⟨vs, H1, J, r1, a, xs, rfl, hy, q⟩
    match us, r1 with
    | [_], .cons rfl .nil =>
      obtain ⟨its, _, tv, _⟩ := J.tuple hy
      obtain ⟨_, ha, _⟩ := id tv
      have la := Heap.lt_size ha
      let n := s1.heap.objs.size
      have up : ∀ c, c ∈ [n + 1, n] → n ≤ c := all2 (by omega) (by omega)
      refine call_enumT (show s1.heap.IsTuple a its.toArray from tv) fun h' q1 q2 kp => wpAny_pyIter_enum q1 ?_
      exact ⟨n + 1, [n + 1, n], _, _, H1, rfl, J.kept (t' := s1.toks) kp, turn_enumT a (n + 1) n (Nat.ne_of_lt la) (Nat.succ_ne_self n) (Nat.ne_of_gt (Nat.lt_succ_of_lt la)), ⟨⟨.none, q1⟩, q2⟩, fun c hc => J.fpOk (up c hc) (J.hok.fresh (up c hc)), q⟩
def kEnT (K : PySem.W.Frag) (R : It → Hp → Prop) : List V → Hp → Prop := fun vs H1 => ∃ a xs, vs = [.ref a] ∧ SqT K H1 a xs ∧ R (IteT K a) H1
theorem w_iEnT {K : PySem.W.Frag} {ta : TA} {σ : L2.St} {H : Hp} {R : It → Hp → Prop} (q : ta σ H (kEnT K R)) : iEnumT K ta σ H R := q
theorem w_forE {K : PySem.W.Frag} {g : TG} {tb : TS} {D : Ends} {σ : L2.St} {H : Hp} {a : Addr} (xs : List V) (Pv : Nat → L2.St → Hp → Prop) (hq : SqT K H a xs) (h0 : Pv 0 σ H) (hl : ∀ i σ H, Pv i σ H → SqT K H a xs)
    (hs : ∀ i x σ H t H1, xs[i]? = some x → Pv i σ H → H t = none → Same H H1 → H1 t = some (.tup [.int (i : Nat), x]) → g (.ref t) σ H1 fun σ2 H2 => tb { D with nx := Pv (i + 1), ct := Pv (i + 1), bk := D.nx } σ2 H2)
    (hd : ∀ σ H, Pv xs.length σ H → D.nx σ H) : kEnT K (kFor g tb D σ) [.ref a] H := by
  refine ⟨a, xs, rfl, hq, fun i m σ H => m = xs.length - i ∧ i ≤ xs.length ∧ Pv i σ H, ⟨xs.length, by simp, Nat.zero_le _, h0⟩, ?_⟩
  rintro i m σ H ⟨rfl, hi, p⟩
  have q := hl i σ H p
  by_cases hlt : i < xs.length
  · refine .inr ⟨⟨xs, xs[i], q, List.getElem?_eq_getElem hlt⟩, Pv (i + 1), fun σ' H' p' => ⟨xs.length - (i + 1), by omega, rfl, hlt, p'⟩, fun v H' y => ?_⟩
    obtain ⟨T, y, rfl, nT, rfl, hy⟩ := y
    exact hs i y σ H T _ (hy xs q) p nT (Same.new nT) upd_same
  · have e : i = xs.length := by omega
    subst e
    exact .inl ⟨⟨xs, q, rfl⟩, hd σ H p⟩
theorem w_catG {K : PySem.W.Frag} {a b : Addr} {xs ys : List V} {H : Hp} {Q : VK} (h1 : SqT K H a xs) (h2 : SqT K H b ys) (hl : xs.length + ys.length ≤ sizeLine) (q : ∀ p H', Same H H' → SqT K H' p (xs ++ ys) → Q (.ref p) H') : rCatA K (.ref a) (.ref b) H Q :=
  ⟨a, b, xs, ys, rfl, rfl, h1, h2, hl, fun e => q b H (fun _ _ e => e) (by rw [e]; exact h2), fun _ e => q a H (fun _ _ e => e) (by rw [e, List.append_nil]; exact h1), fun _ _ p np => q p _ (Same.new np) (.inl (.inl upd_same))⟩
theorem w_slG {K : PySem.W.Frag} {a : Addr} {xs : List V} {lo hi : Option Int} {H : Hp} {Q : VK} (h : SqT K H a xs) (q : ∀ p H', Same H H' → SqT K H' p (cutV xs lo hi) → Q (.ref p) H') : rSlA K (.ref a) lo hi H Q :=
  ⟨a, xs, rfl, h, fun ⟨e1, e2⟩ => q a H (fun _ _ e => e) (by unfold cutV; rw [e1, e2]; simpa using h), fun _ p np => q p _ (Same.new np) (.inl (.inl upd_same))⟩
end Co

set_option Elab.async false
set_option linter.all false
set_option maxRecDepth 100000
set_option maxHeartbeats 4000000
namespace Co
open PySem PySem.Spec PyProof.Rows L2
/-! ### repr of data at any depth, where nothing is being shown -/
/-- d may be shown: no dict, small ints and letters -/
structure Shw (d : PyData) : Prop where
  show_ : d.showable = true
  dict_ : d.hasDict = false
  deep : d.depth ≤ 64
  len : d.shown.length ≤ sizeLine
def rRepr (K : PySem.W.Frag) : List V → Hp → VK → Prop := fun xs H Q => ∃ a d, xs = [.ref a] ∧ Dp K H (.ref a) d ∧ Shw d ∧ Q (.str d.shown) H
theorem call_reprD {X : Cx} (hg : X.A.guards = some []) (hu : X.A.units + 70 < cLine) : CallR X (.builtin "repr") (rRepr X.K) := by
  intro pins s σ H xs us Q I r h
  obtain ⟨a, d, rfl, hd, S, q⟩ := h
  obtain ⟨u, rfl, rx⟩ := vals1 r
  cases rx
  obtain ⟨as, rd⟩ := Dp.reads I d _ _ hd rfl
  refine repr_of_reads' rd S.show_ (fun z => absurd (S.dict_.symm.trans z) (by decide)) hg (by have := S.deep; omega) (fun b o e => e) (fun h' u tk hk => ⟨.str d.shown, H, I.kept (t' := tk) hk, ⟨u, rfl⟩, q⟩) S.len
theorem w_repr {K : PySem.W.Frag} {a : Addr} {d : PyData} {H : Hp} {Q : VK} (h : Dp K H (.ref a) d) (hs : Shw d) (q : Q (.str d.shown) H) : rRepr K [.ref a] H Q := ⟨a, d, rfl, h, hs, q⟩
/-! ### the law's own run: nothing stands below it -/
def RunG (P : Program) (w : World) (K : PySem.W.Frag) (mg : Str → Option Value) (base : Heap) (f : Addr) (fd : FuncData) (x : Str) (sp : Sp) : Prop :=
  ∀ (s : Shared) (H : Hp) (args : Args) (us : List Value) (vs : List V) (Q : VK), Env0 P w K mg base callerA [] s H → BindsTo s fd args ([x].zip us) → Vals vs us → vs.length = 1 → sp vs H Q E0 → codeAny (model P w) callerA (.call (.ref f) args) (CR CX0 [] P w H s Q E0) s
theorem guards_callerA (env : Env) : (callerA.deeper env).guards = some [] := rfl
theorem runG_of {P : Program} {w : World} {K : PySem.W.Frag} {mg : Str → Option Value} {base : Heap} {x qual par : Str} {st : Stmt} {f : Addr} {fd : FuncData} {N : List Str} {k : Nat} {sp : Sp} (F : Fun K x qual st f fd) (S : FnScope N [par] (defScope st)) (hr : Room (k + 1) callerA)
    (hbody : ∀ (cdv : Value) (s : Shared) (H : Hp) (vs : List V) (Q : VK), Room k (callerA.deeper (envOfC qual (defScope st) s.heap.objs.size f cdv)) → sp vs H Q E0 →
      ∃ t, PSs (cxOf CX0 P w K mg base N qual (defScope st) f cdv callerA [] s H E0).nox (defBody st) t ∧ t { nx := fun _ H' => Q .non H', rt := Q } (start N vs) H) : RunG P w K mg base f fd par sp := by
  obtain ⟨oc, od, kV, doc, pm, an, cdv, ct, osl, rfl, lk, hcd⟩ := F.ex
  intro s H args us vs Q e0 hb r hl hsp
  have keep : ∀ b o, base.get? b = some o → s.heap.get? b = some o := fun b o e => (e0.bs b o e).1
  have KX := e0.mod.kin.keeps keep
  have slots : ∀ y ∈ [par].zip us, (defScope st).names.lookup y.1 = some .local ∨ ((defScope st).names.lookup y.1 = some .cell ∧ ((cellsFrom (s.heap.objs.size + 1) (defScope st).names []).lookup y.1).isSome = true) := by
    rintro ⟨n, v⟩ hy
    have m := S.par n (List.of_mem_zip hy).1
    exact m.imp id fun q => ⟨q, PySem.W.cellsFrom_some _ _ _ (.inl q)⟩
  refine codeAny_call_function hr.depth (KX _ _ lk) rfl S.co S.gen rfl (PySem.W.codeRec_of KX hcd) (hb _ _ _ _ (wpAny_newFunctionEnv_cells S.kind slots fun env he s1 inC => ?_))
  cases he
  obtain ⟨t, ht, hq⟩ := hbody cdv s H vs Q (hr.deeper _) hsp
  have I := inv_start (CX := CX0) (E := E0) (cd := cdv) (qual := qual) S hr.hd e0 hl r inC
  refine ⟨(e0.mod.nolimit.keeps keep).keeps inC.toInCall.keep, codeAny_func (wpAny_mono (ht.nox.run [] s1 (start N vs) H _ I hq) (fun fl s' hs => ?_) fun e s' hs => hs)⟩
  match fl, hs with
  | .ret u, ⟨v, σ', H', J, rv, q⟩ => exact ⟨v, H', J.os, J.bare, J.base, J.hok, rv, q⟩
  | .next, ⟨σ', H', J, q⟩ => exact ⟨V.non, H', J.os, J.bare, J.base, J.hok, rfl, q⟩
  | .brk, ⟨_, _, _, q⟩ => exact False.elim q
  | .cont, ⟨_, _, _, q⟩ => exact False.elim q
/-- how the law's call ends -/
def Ended (s1 : Shared) : Result → Shared → Prop := fun r s' => r = .ok (.ret (.bool true)) ∧ OldK s1.heap s'.heap ∧ s'.os = s1.os ∧ AllBare s'.gens
section
variable {P : Program} {w : World} {K : PySem.W.Frag} {mg mb : Str → Option Value} {fa a : Addr} {fd : FuncData} {x : Str} {sp : Sp} {s1 : Shared} {vs : List Value} {ns : List Int}
/-- from a heap that tracks the script at most -/
theorem call_from (KX : K.In s1.heap) (hns : s1.heap.Ns mainGlobals mg) (hb : s1.heap.Ns builtinsNs mb) (hbb : ∀ y : Str, y ≠ "__name__" → mb y = bootBuiltins y) (hlim : s1.heap.NoLimit) (hg : s1.gens = #[])
    (ha : ∃ xs n, (s1.heap.get? a).map (·.data) = some (.seq xs n)) (F : ∀ base : Heap, K.In base → base.Ns mainGlobals mg → RunG P w K mg base fa fd x sp) (hbind : ∀ (s : Shared) (u : Value), BindsTo s fd ⟨[u], []⟩ [(x, u)])
    {H : Hp} (hO : Only H) (hok : HOk P w H s1.heap) (hA : ∀ b, b ≠ a → H b = none) (hK : H a = none ∨ K.lookup a = none) (hsp : sp [.ref a] H (fun v _ => v = .bl true) E0) :
    codeAny (model P w) callerA (.call (.ref fa) ⟨[.ref a], []⟩) (Ended s1) s1 := by
  have out : ∀ {b : Addr} {o : Obj} {es : Array DictEntry} {ep : Nat}, s1.heap.get? b = some o → o.data = .dict es ep → H b = none := by
    intro b o es ep e d
    by_cases z : b = a
    · subst z
      obtain ⟨xs, n, q⟩ := ha
      rw [e, Option.map_some, d] at q
      cases q
    · exact hA b z
  have nsT : ∀ {b : Addr} {m : Str → Option Value}, s1.heap.Ns b m → (hidT s1.heap H).Ns b m := by
    rintro b m ⟨o, es, ep, e, d, r⟩
    exact ⟨o, es, ep, hidT_get e (out e d), d, r⟩
  have KT : K.In (hidT s1.heap H) := by
    intro b o e
    refine hidT_get (KX b o e) ?_
    by_cases z : b = a
    · subst z
      exact hK.resolve_right fun q => by rw [q] at e; cases e
    · exact hA b z
  obtain ⟨mc, l1, l2⟩ := hlim
  have M : Mod K mg (hidT s1.heap H) := ⟨KT, nsT hns, ⟨mb, nsT hb, hbb⟩, mc, nsT l1, l2⟩
  have e0 : Env0 P w K mg (hidT s1.heap H) callerA [] s1 H := { frames := rfl, mod := M, bs := fun b o e => of_hidT e, bsz := Nat.le_of_eq (hidT_size _ _), funs := trivial, frf := fun b z => absurd (show b ∈ ([] : List Addr) from z) (by simp), hok := hok, bare := .of_eq hg }
  refine codeAny_mono (F _ KT (nsT hns) s1 H _ [.ref a] [.ref a] _ e0 (hbind s1 _) (.cons rfl .nil) rfl hsp) ?_
  rintro (e | fl) s' h
  · exact h.elim
  · match fl, h with
    | .ret u, ⟨v, H', os, bare, un, hok', r', q⟩ =>
      cases (show v = .bl true from q)
      cases (show u = Value.bool true from r')
      refine ⟨rfl, OldK.of_keep fun b o e => ?_, os, bare⟩
      rcases hO b with z | ⟨ob, xs, z⟩
      · exact un.keep b o e z (fun m => nomatch m) (fun m => nomatch m)
      · have e1 := (hok b _ z).1
        have e2 := (hok' b _ (un.frzs b ob _ z)).1
        cases e.symm.trans e1
        exact e2
theorem law_callG (KX : K.In s1.heap) (hns : s1.heap.Ns mainGlobals mg) (hb : s1.heap.Ns builtinsNs mb) (hbb : ∀ y : Str, y ≠ "__name__" → mb y = bootBuiltins y) (hlim : s1.heap.NoLimit) (hg : s1.gens = #[])
    (ha : s1.heap.get? a = some { cls := .type "list", data := .seq vs.toArray }) (hi : IntsAre vs ns) (hl : ns.length ≤ sizeLine) (F : ∀ base : Heap, K.In base → base.Ns mainGlobals mg → RunG P w K mg base fa fd x sp) (hbind : ∀ (s : Shared) (u : Value), BindsTo s fd ⟨[u], []⟩ [(x, u)])
    (hsp : ∀ H : Hp, Only H → SqL K H a (ns.map V.int) → sp [.ref a] H (fun v _ => v = .bl true) E0) : codeAny (model P w) callerA (.call (.ref fa) ⟨[.ref a], []⟩) (Ended s1) s1 := by
  have rv := vals_ints hi
  have hl' : vs.toArray.size ≤ sizeLine := by rw [List.size_toArray, hi.length]; exact hl
  have haq : ∃ xs n, (s1.heap.get? a).map (·.data) = some (.seq xs n) := ⟨_, _, by rw [ha]; rfl⟩
  cases hk : K.lookup a with
  | some o =>
    have e := (KX a o hk).symm.trans ha
    cases e
    have O : Only fun _ => none := fun _ => .inl rfl
    exact call_from KX hns hb hbb hlim hg haq F hbind O (fun b u z => by cases z) (fun _ _ => rfl) (.inl rfl) (hsp _ O (.inr ⟨_, vs.toArray, _, hk, rfl, rfl, rfl, hl', by simpa using rv⟩))
  | none =>
    let fz : HO := .frz { cls := .type "list", data := .seq vs.toArray } (.lst (ns.map V.int))
    have at_a : ∀ {b : Addr} {u : HO}, (if b = a then some fz else none) = some u → b = a ∧ u = fz := by
      intro b u z
      by_cases q : b = a
      · rw [if_pos q] at z; exact ⟨q, (Option.some.inj z).symm⟩
      · rw [if_neg q] at z; cases z
    have O : Only fun b => if b = a then some fz else none := fun b => by
      by_cases q : b = a
      · exact .inr ⟨_, _, if_pos q⟩
      · exact .inl (if_neg q)
    refine call_from KX hns hb hbb hlim hg haq F hbind O (fun b u z => ?_) (fun b q => if_neg q) (.inr hk) (hsp _ O (.inl (.inr ⟨_, if_pos rfl⟩)))
    obtain ⟨rfl, rfl⟩ := at_a z
    exact ⟨ha, by rw [List.length_map]; exact hl, vs, _, rv, ha⟩
end
/-- the goal that k_head leaves, from the law's run -/
theorem walk_ofG {l : PySem.W.OpenLaw} {n : Nat} {q : Program} {loose : List Str} {XP : (Str → Option Value) → Heap → Prop} {YP : World → Heap → Prop} {d : DefRec} {K : Params → PySem.W.Frag} {sp : World → Sp} {x : Str}
    (hn : l.most = some n) (hn2 : n ≤ sizeLine) (hdf : d.params.defaults = []) (hY : ∀ (w : World) (h : Heap), YP w h → (K w.params).In h)
    (F : ∀ (w : World) (mg : Str → Option Value) (fa : Addr) (h : Heap), (K w.params).In h → h.Ns mainGlobals mg → mg d.name = some (.ref fa) →
      ∃ fd : FuncData, (∀ (s : Shared) (u : Value), BindsTo s fd ⟨[u], []⟩ [(x, u)]) ∧ ∀ base : Heap, (K w.params).In base → base.Ns mainGlobals mg → RunG l.prog w (K w.params) mg base fa fd x (sp w))
    (hsp : ∀ (w : World) (H : Hp) (a : Addr) (ns : List Int), ns.length ≤ n → Only H → SqL (K w.params) H a (ns.map V.int) → sp w [.ref a] H (fun v _ => v = .bl true) E0) :
    PySem.W.WalkO q loose XP YP l.row.toRowW d [] (fun f vs => PySem.call f vs) := by
  refine Att.attach_call hn hdf fun w _ s1 mg mb fa o pm cd doc a vs ns G Y _ _ _ hmg hobj hints hlen hg => ?_
  have KX := hY w _ Y
  obtain ⟨fd, hb, hF⟩ := F w mg fa _ KX G.T.g hmg
  exact law_callG KX G.T.g G.T.b G.T.builtins G.T.nolimit hg hobj hints (Nat.le_trans hlen hn2) hF hb fun H hO hS => hsp w H a ns hlen hO hS
end Co
namespace Co
open PySem PySem.Spec PyProof.Rows L2
section
variable {X : Cx} {K' : PySem.W.Frag}
theorem call_tupQK (hK : X.K = K') : CallR X (.type "tuple") (rTupQ K') := by subst hK; exact call_tupQ
theorem call_listQK (hK : X.K = K') : CallR X (.type "list") (rListQ K') := by subst hK; exact call_listQ
end
theorem hu70 {A : Around} {k : Nat} (hr : Room k A) : A.units + 70 < cLine := by have := hr.un; omega
end Co
namespace Co
open PySem PySem.Spec PyProof.Rows L2
/-! ### data of rows of ints -/
theorem lay_ints : ∀ xs : List Int, PyData.canLayAll0 (xs.map .int) = true ∧ PyData.depthAll (xs.map .int) = 0
  | [] => by simp [PyData.canLayAll0, PyData.depthAll]
  | x :: r => by
    have := lay_ints r
    simp [PyData.canLayAll0, PyData.depthAll, PyData.canLay0, PyData.depth, this.1, this.2]
theorem dpInts {K : PySem.W.Frag} {H : Hp} : ∀ xs : List Int, DpAll K H (xs.map V.int) (xs.map .int)
  | [] => .nil
  | x :: r => .cons (.int x) (dpInts r)
def rowD (bs : List Int) : PyData := .tuple (bs.map .int)
def rowsD (B : List (List Int)) : PyData := .tuple (B.map rowD)
theorem dpRow {K : PySem.W.Frag} {H : Hp} {a : Addr} {bs : List Int} (h : SqT K H a (bs.map V.int)) : Dp K H (.ref a) (rowD bs) := .tup h (dpInts bs)
theorem dpAllRows {K : PySem.W.Frag} {H : Hp} : ∀ (as : List V) (B : List (List Int)), as.length = B.length → (∀ (j : Nat) (v : V) (bs : List Int), as[j]? = some v → B[j]? = some bs → ∃ a, v = V.ref a ∧ SqT K H a (bs.map V.int)) → DpAll K H as (B.map rowD)
  | [], [], _, _ => .nil
  | [], _ :: _, e, _ => by cases e
  | _ :: _, [], e, _ => by cases e
  | v :: as, bs :: B, e, h => by
    obtain ⟨a, rfl, q⟩ := h 0 v bs rfl rfl
    exact .cons (dpRow q) (dpAllRows as B (Nat.succ.inj e) fun j v' bs' h1 h2 => h (j + 1) v' bs' h1 h2)
theorem lay_rows : ∀ B : List (List Int), PyData.canLayAll0 (B.map rowD) = true ∧ PyData.depthAll (B.map rowD) ≤ 1
  | [] => by simp [PyData.canLayAll0, PyData.depthAll]
  | x :: r => by
    obtain ⟨h1, h2⟩ := lay_rows r
    obtain ⟨l1, l2⟩ := lay_ints x
    constructor
    · simp only [List.map_cons, PyData.canLayAll0, rowD, PyData.canLay0, l1, Bool.true_and]
      exact h1
    · simp only [List.map_cons, PyData.depthAll, rowD, PyData.depth, l2]
      have : PyData.depthAll (List.map (fun bs => PyData.tuple (List.map PyData.int bs)) r) ≤ 1 := h2
      omega
theorem rows_shaped (B : List (List Int)) : SeqAt.shaped (rowsD B) = true := by
  have l := lay_rows B
  simp only [SeqAt.shaped, rowsD, PyData.canLay0, PyData.depth, l.1, Bool.true_and, decide_eq_true_eq]
  omega
end Co

set_option Elab.async false
set_option linter.all false
set_option maxRecDepth 100000
set_option maxHeartbeats 4000000
namespace Co
open PySem PySem.Spec PyProof.Rows L2
/-! ### data small enough to be shown and compared -/
structure SmD (n k : Nat) (d : PyData) : Prop where
  lay : d.canLay0 = true
  sh : d.intsShort 13 = true
  shw : d.showable = true
  w : d.weight + 1 ≤ n
  dp : d.depth ≤ k
structure SmAll (n k : Nat) (ds : List PyData) : Prop where
  lay : PyData.canLayAll0 ds = true
  sh : PyData.intsShortAll 13 ds = true
  shw : PyData.showableAll ds = true
  w : PyData.weightAll ds ≤ n
  dp : PyData.depthAll ds ≤ k
theorem SmD.shaped {n k : Nat} {d : PyData} (h : SmD n k d) (hk : k ≤ 64) : SeqAt.shaped d = true := by
  have := h.dp
  unfold SeqAt.shaped
  rw [h.lay, Bool.true_and, decide_eq_true_eq]
  omega
theorem SmD.shown {n k : Nat} {d : PyData} (h : SmD n k d) (hk : k ≤ 64) (hn : n ≤ 1048577) : Shw d := by
  have := h.dp
  have hw := h.w
  exact ⟨h.shw, PyData.hasDict_of_canLay d h.lay, by omega, PyData.shown_fits (B := 13) (by decide) (by decide) (PyData.leavesShort_of_canLay0 13 d h.lay h.sh) (by rw [show (2 : Nat) ^ 20 = 1048576 from rfl]; omega)⟩
theorem SmAll.nil {k : Nat} : SmAll 0 k [] := ⟨by simp [PyData.canLayAll0], by simp [PyData.intsShortAll], by simp [PyData.showableAll], by simp [PyData.weightAll], by simp [PyData.depthAll]⟩
theorem SmAll.cons {n m k : Nat} {d : PyData} {ds : List PyData} (h : SmD n k d) (hs : SmAll m k ds) : SmAll (n + m) k (d :: ds) := by
  have h1 := h.w; have h2 := hs.w; have h3 := h.dp; have h4 := hs.dp
  refine ⟨by simp [PyData.canLayAll0, h.lay, hs.lay], by simp [PyData.intsShortAll, h.sh, hs.sh], by simp [PyData.showableAll, h.shw, hs.shw], ?_, ?_⟩
  · simp only [PyData.weightAll]; omega
  · simp only [PyData.depthAll]; omega
theorem SmAll.tup {n k : Nat} {ds : List PyData} (h : SmAll n k ds) : SmD (n + 1) (k + 1) (.tuple ds) := by
  have h2 := h.w; have h4 := h.dp
  exact ⟨by simpa [PyData.canLay0] using h.lay, by simpa [PyData.intsShort] using h.sh, by simpa [PyData.showable] using h.shw, by simp only [PyData.weight]; omega, by simp only [PyData.depth]; omega⟩
theorem SmAll.lst {n k : Nat} {ds : List PyData} (h : SmAll n k ds) : SmD (n + 1) (k + 1) (.list ds) := by
  have h2 := h.w; have h4 := h.dp
  exact ⟨by simpa [PyData.canLay0] using h.lay, by simpa [PyData.intsShort] using h.sh, by simpa [PyData.showable] using h.shw, by simp only [PyData.weight]; omega, by simp only [PyData.depth]; omega⟩
theorem SmD.int {k : Nat} {i : Int} (h : i.natAbs < 1000000000000) : SmD 41 k (.int i) := by
  have hl : i.natAbs ≠ 0 → i.natAbs.log2 < 40 := fun z => (Nat.log2_lt z).2 (Nat.lt_trans h (by decide))
  refine ⟨by simp [PyData.canLay0], ?_, ?_, ?_, by simp [PyData.depth]⟩
  · simp only [PyData.intsShort, decide_eq_true_eq]; exact PyData.shown_int_le h
  · simp only [PyData.showable, decide_eq_true_eq]
    by_cases z : i.natAbs = 0
    · rw [z]; decide
    · exact Nat.lt_trans (hl z) (by decide)
  · simp only [PyData.weight]
    split
    · omega
    · rename_i z
      have := hl (by intro q; apply z; simp; omega)
      omega
theorem SmD.bool {k : Nat} (b : Bool) : SmD 1 k (.bool b) := ⟨by simp [PyData.canLay0], by simp [PyData.intsShort], by simp [PyData.showable], by simp [PyData.weight], by simp [PyData.depth]⟩
theorem SmD.non {k : Nat} : SmD 1 k .none := ⟨by simp [PyData.canLay0], by simp [PyData.intsShort], by simp [PyData.showable], by simp [PyData.weight], by simp [PyData.depth]⟩
theorem SmD.str {k m : Nat} {x : Str} (h : PyData.strOk x = true) (hm : x.cps.size ≤ m) : SmD (m + 1) k (.str x) := ⟨by simpa [PyData.canLay0] using h, by simp [PyData.intsShort], by simp [PyData.showable], by simp only [PyData.weight]; omega, by simp [PyData.depth]⟩
theorem SmD.mono {n k n' k' : Nat} {d : PyData} (h : SmD n k d) (hn : n ≤ n') (hk : k ≤ k') : SmD n' k' d := ⟨h.lay, h.sh, h.shw, Nat.le_trans h.w hn, Nat.le_trans h.dp hk⟩
theorem SmAll.mono {n k n' k' : Nat} {ds : List PyData} (h : SmAll n k ds) (hn : n ≤ n') (hk : k ≤ k') : SmAll n' k' ds := ⟨h.lay, h.sh, h.shw, Nat.le_trans h.w hn, Nat.le_trans h.dp hk⟩
theorem SmAll.all {n k : Nat} : ∀ {ds : List PyData}, (∀ d ∈ ds, SmD n k d) → SmAll (n * ds.length) k ds
  | [], _ => SmAll.nil
  | d :: ds, h => ((SmAll.cons (h d (by simp)) (SmAll.all fun e he => h e (by simp [he])))).mono (by rw [List.length_cons, Nat.mul_add]; omega) (Nat.le_refl _)
theorem SmAll.ints {k : Nat} {xs : List Int} (h : ∀ x ∈ xs, x.natAbs < 1000000000000) : SmAll (41 * xs.length) k (xs.map .int) := by
  have := SmAll.all (n := 41) (k := k) (ds := xs.map .int) fun d hd => by
    obtain ⟨x, hx, rfl⟩ := List.mem_map.mp hd
    exact SmD.int (h x hx)
  rw [List.length_map] at this
  exact this
theorem SmD.row {k : Nat} {xs : List Int} (h : ∀ x ∈ xs, x.natAbs < 1000000000000) : SmD (41 * xs.length + 1) (k + 1) (rowD xs) := (SmAll.ints h).tup
end Co

set_option Elab.async false
set_option linter.all false
set_option maxRecDepth 100000
set_option maxHeartbeats 4000000
namespace Co
open PySem PySem.Spec PyProof.Rows L2
/-! ### set(l) of a list (and of a tuple) of ints -/
abbrev nset (w : World) : Obj := { cls := .type "set", dict := none, data := .set #[] 0 (.fresh 0 0 (!w.params.followText "set-order")) }
abbrev lstIt (l : Addr) : Obj := { cls := .type "list_iterator", data := .fields #[.ref l, .int 0 0] }
section
variable {P : Program} {w : World} {A : Around} {E : Value → Shared → Prop} {s : Shared}
theorem pushS {h : Heap} {o : Obj} : (h.push o).objs.size = h.objs.size + 1 := Heap.size_push ..
set_option maxHeartbeats 3200000 in
theorem call_set_listI {l : Addr} {its : Array Value} (ns : List Int) {Q : Value → Shared → Prop} (hh : A.handled = none) (hl : s.heap.IsList l its) (hit : IntsAre its.toList ns) (hb : ns.length + 1 < scanBound)
    (k : ∀ (h2 : Heap) (tk c : Nat), SetR w h2 s.heap.objs.size (fun j => decide (j ∈ ns)) c → c ≤ ns.length → (∀ b o, s.heap.get? b = some o → h2.get? b = some o) → Q (.ref s.heap.objs.size) { s with heap := h2, toks := tk }) :
    wpAny (model P w) A (call (.type "set") [.ref l]) Q E s := by
  have sz : its.size = ns.length := by have q := IntsAre.length hit; rw [Array.length_toList] at q; exact q
  obtain ⟨c, tl, hmro⟩ := F.called_set.mro
  have m1 := F.called_set.made; have m2 := F.called_set.sub
  refine wpAny_call (codeAny_of_tree ?_); show wpAny _ _ (callAny (.type "set") _) _ _ _
  refine wpAny_pure ⟨Code.quiet_builtin _ (by decide +kernel), codeAny_builtin F.entry_type_call ?_⟩; rw [Around.under_plain (weight_type_call_type "set" [.ref l] []) rfl]
  have h1 := F.called_set.notType; have h2 := F.called_set.canCreate; have h3 := F.typeCall_set_1 (.ref l)
  repeat (any_goals (first | assumption | wp_step))
  refine codeAny_mono (code_set_led1 (.ref l) (E := E) (Q₁ := fun ob s1 => ob = .ref s.heap.objs.size ∧ s1 = { s with heap := s.heap.push (nset w) }) ⟨rfl, rfl⟩) fun r s1 hr => ?_
  match r, hr with
  | .error e, hr => exact hr
  | .ok .next, hr => exact hr.elim
  | .ok .brk, hr => exact hr.elim
  | .ok .cont, hr => exact hr.elim
  | .ok (.ret ob), hr =>
    obtain ⟨rfl, rfl⟩ := hr
    have gS : (s.heap.push (nset w)).get? s.heap.objs.size = some (nset w) := Heap.get?_push_size _ rfl
    have tS : Shared.TypeIs { s with heap := s.heap.push (nset w) } (.ref s.heap.objs.size) "set" := ⟨_, gS, rfl⟩
    have i1 := F.called_set.init.lookup; have i2 := F.called_set.init.bind (.ref s.heap.objs.size)
    repeat (any_goals (first | assumption | wp_step))
    refine codeAny_mono (codeAny_call_builtin (R := wants (fun r s2 => r = .none ∧ ∃ h2 tk c, s2 = { s with heap := h2, toks := tk } ∧ SetR w h2 s.heap.objs.size (fun j => decide (j ∈ ns)) c ∧ c ≤ ns.length ∧ ∀ b o, s.heap.get? b = some o → h2.get? b = some o) E) F.called_set.init.plain F.entry_set_init (check_set_init_1 tS ?_)) fun r2 s2 hr2 => ?_
    · obtain ⟨⟨oc, odi, oda, osl⟩, gl, cl, nl, dl⟩ := hl
      dsimp only at cl dl; subst cl; subst dl
      have gl' : (s.heap.push (nset w)).get? l = some ⟨.type "list", odi, .seq its nl, osl⟩ := Heap.get?_push_of_some _ gl
      have q1 := F.sub_list_set; have q2 := F.sub_list_frozenset; have q3 : (Value.type "list" == Value.type "dict") = false := by decide
      have hl1 : (s.heap.push (nset w)).IsList l its := ⟨_, gl', rfl, nl, rfl⟩
      unfold Builtin.«set.__init__» noKeywords Builtin.Frozenset.updateFrom
      generalize hPI : pyIter = PI
      wp_walk
      subst hPI
      refine wpAny_pyIter_list hl1 (wpAny_bind (wpAny_runValue ?_))
      have lS : l < s.heap.objs.size := Heap.lt_size gl
      have nI : l ≠ (s.heap.push (nset w)).objs.size := by rw [pushS]; exact Nat.ne_of_lt (Nat.lt_succ_of_lt lS)
      have nS : s.heap.objs.size ∉ [(s.heap.push (nset w)).objs.size, l] := by
        rw [pushS]; simp only [List.mem_cons, List.not_mem_nil, or_false, not_or]
        exact ⟨Nat.ne_of_lt (Nat.lt_succ_self _), Nat.ne_of_gt lS⟩
      have vals : ∀ (i : Nat) (v : Value), its[i]? = some v → ∃ k t, ns[i]? = some k ∧ v = .int k t := by
        intro i v hv
        have hi : i < ns.length := by rw [← sz]; exact (Array.getElem?_eq_some_iff.mp hv).1
        obtain ⟨t, e⟩ := PyProof.Rows.IntsAre.int_at hit i v (by rw [Array.getElem?_toList]; exact hv)
        rw [List.getD_eq_getElem?_getD, List.getElem?_eq_getElem hi] at e
        exact ⟨ns[i], t, List.getElem?_eq_getElem hi, e⟩
      have gS2 : ((s.heap.push (nset w)).push (lstIt l)).get? s.heap.objs.size = some (nset w) := Heap.get?_push_of_some _ gS
      refine set_update_ints ((Walks.list (A := A.in1.in1.in1) (by simp [hh]) _ l nI its).toS) s.heap.objs.size nS ns sz hb vals (its.size - 0) 0 _ (by omega) (Nat.zero_le _) ⟨⟨_, Heap.get?_push_size _ rfl, rfl, rfl⟩, hl1.push _⟩ ⟨0, Nat.le_refl 0, setR_new_at gS2⟩ ?_
      rintro ⟨h2, g2, d2, t2, o2⟩ c' hm hc' hS'
      cases (show g2 = s.gens from hm.gens); cases (show d2 = s.drawn from hm.drawn); cases (show o2 = s.os from hm.os)
      rw [sz] at hc'
      show wpAny _ _ _ _ _ _
      refine wpAny_pure ?_
      show wpAny _ _ (ret Value.none) _ _ _
      refine wpAny_pure ⟨rfl, h2, t2, c', rfl, hS', hc', fun b o e => ?_⟩
      have b0 : b < s.heap.objs.size := Heap.lt_size e
      refine hm.heap b o ?_ (Heap.get?_push_of_some _ (Heap.get?_push_of_some _ e))
      rw [pushS]; simp only [List.mem_cons, List.not_mem_nil, or_false, not_or]
      exact ⟨Nat.ne_of_lt b0, Nat.ne_of_lt (Nat.lt_succ_of_lt b0)⟩
    · match r2, hr2 with
      | .error e, hr2 => exact hr2
      | .ok .next, hr2 => exact hr2.elim
      | .ok .brk, hr2 => exact hr2.elim
      | .ok .cont, hr2 => exact hr2.elim
      | .ok (.ret r), hr2 =>
        obtain ⟨rfl, h3, tk, c', rfl, hS', hc', hk'⟩ := hr2
        repeat (any_goals (first | assumption | wp_step))
        exact k _ _ _ hS' hc' hk'
end
end Co

set_option Elab.async false
set_option linter.all false
set_option maxRecDepth 100000
set_option maxHeartbeats 4000000
namespace Co
open PySem PySem.Spec PyProof.Rows L2
def rSetS (w : World) (K : PySem.W.Frag) : List V → Hp → VK → Prop := fun xs H Q => ∃ (p : Addr) (ns : List Int), xs = [.ref p] ∧ (SqL K H p (ns.map V.int) ∨ SqT K H p (ns.map V.int)) ∧ ns.length ≤ 1000 ∧ ∀ D c, H D = none → c ≤ ns.length → Q (.ref D) (upd H D (SetO w D (fun j => decide (j ∈ ns)) c))
theorem intsOf : ∀ {ns : List Int} {us : List Value}, Vals (ns.map V.int) us → IntsAre us ns
  | [], _, h => by cases h; exact .nil
  | n :: ns, _, h => by
    cases h with
    | cons r rr => obtain ⟨t, rfl⟩ := r; exact .cons n t (intsOf rr)
theorem cr_setS {X : Cx} (hc : X.calm = true) : CallR X (.type "set") (rSetS X.w X.K) := by
  intro pins s σ H xs us Q I r h
  obtain ⟨p, ns, rfl, hq, hl, q⟩ := h
  obtain ⟨u, rfl, rx⟩ := vals1 r
  cases rx
  have hb : ns.length + 1 < scanBound := Nat.lt_of_le_of_lt (Nat.succ_le_succ hl) (by decide)
  have hn : H s.heap.objs.size = none := I.hok.fresh (Nat.le_refl _)
  have fin : ∀ (h2 : Heap) (tk c : Nat), SetR X.w h2 s.heap.objs.size (fun j => decide (j ∈ ns)) c → c ≤ ns.length → (∀ b o, s.heap.get? b = some o → h2.get? b = some o) → EP X pins σ Q (.ref s.heap.objs.size) { s with heap := h2, toks := tk } :=
    fun h2 tk c R hle kp => ⟨.ref s.heap.objs.size, _, I.laid (t' := tk) kp (Nat.le_refl _) (setO_new R), rfl, q _ c hn hle⟩
  rcases hq with hq | hq
  · obtain ⟨its, rv, pl, _⟩ := I.list hq
    exact call_set_listI ns (I.ok.hd hc) pl.isList (by simpa using intsOf rv) hb fin
  · obtain ⟨its, rv, pt, _⟩ := I.tuple hq
    exact call_set_tupI ns (I.ok.hd hc) pt (by simpa using intsOf rv) hb fin
theorem w_setS {w : World} {K : PySem.W.Frag} {p : Addr} {ns : List Int} {H : Hp} {Q : VK} (h : SqL K H p (ns.map V.int) ∨ SqT K H p (ns.map V.int)) (hl : ns.length ≤ 1000) (q : ∀ D c H', H D = none → c ≤ ns.length → Same H H' → H' D = some (SetO w D (fun j => decide (j ∈ ns)) c) → Q (.ref D) H') : rSetS w K [.ref p] H Q :=
  ⟨p, ns, rfl, h, hl, fun D c nD hc => q D c _ nD hc (Same.new nD) upd_same⟩
/-- sorted(set(..)) of at most 63 ints: the ascending row -/
theorem w_sortedOf {w : World} {D : Addr} {ns : List Int} {c : Nat} {H : Hp} {Q : VK} (h : H D = some (SetO w D (fun j => decide (j ∈ ns)) c)) (hc : c < 64) (q : ∀ (ms : List Int) (p : Addr) H', ms.Pairwise (· < ·) → (∀ k : Int, k ∈ ms ↔ k ∈ ns) → H p = none → Same H H' → H' p = some (.lst (ms.map V.int)) → Q (.ref p) H') : rSortedSet w [.ref D] H Q :=
  w_sortedSet h hc fun ms p H' h1 h2 _ h4 h5 h6 => q ms p H' h1 (fun k => (h2 k).trans decide_eq_true_iff) h4 h5 h6
end Co

set_option Elab.async false
set_option linter.all false
set_option maxRecDepth 100000
set_option maxHeartbeats 4000000
namespace Co
open PySem PySem.Spec PyProof.Rows L2 PySem.W
/-! ### min(t), max(t) of a tuple of ints -/
def rEndT (f : Int → Int → Int) (K : PySem.W.Frag) : List V → Hp → VK → Prop := fun xs H Q => ∃ (p : Addr) (n : Int) (ns : List Int), xs = [.ref p] ∧ SqT K H p ((n :: ns).map V.int) ∧ Q (.int (ns.foldl f n)) H
theorem alikeInts : ∀ ns : List Int, AlikeAll (ns.map PyData.int) := fun ns => ⟨fun x hx y hy => by
  obtain ⟨a, _, rfl⟩ := List.mem_map.mp hx
  obtain ⟨b, _, rfl⟩ := List.mem_map.mp hy
  rfl, fun x hx => by obtain ⟨a, _, rfl⟩ := List.mem_map.mp hx; simp⟩
theorem readInt {h : Heap} {v : Value} {n : Int} {bs : List Addr} (r : Reads h v (.int n) bs) : RelV (.int n) v := by cases r; exact ⟨_, rfl⟩
theorem cr_minT {X : Cx} (hc : X.calm = true) (hu : X.A.units + 70 < cLine) : CallR X (.builtin "min") (rEndT min X.K) := by
  intro pins s σ H xs us Q I r h
  obtain ⟨p, n, ns, rfl, hq, q⟩ := h
  obtain ⟨u, rfl, rx⟩ := vals1 r
  cases rx
  obtain ⟨its, rv, pt, _⟩ := I.tuple hq
  have hi := intsOf rv
  have dp := (lay_ints (n :: ns)).2
  refine min_tuple_data (x := .int n) (xs := ns.map .int) (as := []) (I.ok.hd hc) pt (by simpa using hi.reads s.heap) (alikeInts (n :: ns)) (by rw [List.map_cons] at dp; omega) fun i v h' tk bs _ hr hk => ?_
  rw [minD_ints] at hr
  exact ⟨.int _, H, I.kept (t' := tk) hk, readInt hr, q⟩
theorem cr_maxT {X : Cx} (hc : X.calm = true) (hu : X.A.units + 70 < cLine) : CallR X (.builtin "max") (rEndT max X.K) := by
  intro pins s σ H xs us Q I r h
  obtain ⟨p, n, ns, rfl, hq, q⟩ := h
  obtain ⟨u, rfl, rx⟩ := vals1 r
  cases rx
  obtain ⟨its, rv, pt, _⟩ := I.tuple hq
  have hi := intsOf rv
  have dp := (lay_ints (n :: ns)).2
  refine max_tuple_data (x := .int n) (xs := ns.map .int) (as := []) (I.ok.hd hc) pt (by simpa using hi.reads s.heap) (alikeInts (n :: ns)) (by rw [List.map_cons] at dp; omega) fun i v h' tk bs _ hr hk => ?_
  rw [maxD_ints] at hr
  exact ⟨.int _, H, I.kept (t' := tk) hk, readInt hr, q⟩
/-! ### more steps -/
theorem w_inT {K : PySem.W.Frag} {x : V} {p : Addr} {xs : List V} {H : Hp} {Q : VK} {b : Bool} (h : SqT K H p xs) (hx : flatV x = true) (ha : xs.all flatV = true) (hb : inV x xs = b) (q : Q (.bl b) H) : rIn K false x (.ref p) H Q := ⟨p, xs, rfl, .inr h, hx, ha, by rw [hb]; exact q⟩
theorem flat_ints (xs : List Int) : (xs.map V.int).all flatV = true := by
  rw [List.all_eq_true]
  intro v hv
  obtain ⟨s, _, rfl⟩ := List.mem_map.mp hv
  rfl
theorem inV_ints (k : Int) (xs : List Int) : inV (.int k) (xs.map V.int) = decide (k ∈ xs) := by
  induction xs with
  | nil => rfl
  | cons x r ih =>
    have e : inV (.int k) ((x :: r).map V.int) = ((x == k) || inV (.int k) (r.map V.int)) := rfl
    rw [e, ih, Bool.eq_iff_iff]
    simp only [Bool.or_eq_true, beq_iff_eq, decide_eq_true_eq, List.mem_cons]
    constructor
    · rintro (h | h)
      · exact .inl h.symm
      · exact .inr h
    · rintro (h | h)
      · exact .inl h.symm
      · exact .inr h
theorem w_inTi {K : PySem.W.Frag} {k : Int} {p : Addr} {ns : List Int} {H : Hp} {Q : VK} (h : SqT K H p (ns.map V.int)) (q : Q (.bl (decide (k ∈ ns))) H) : rIn K false (.int k) (.ref p) H Q := w_inT h rfl (flat_ints ns) (inV_ints k ns) q
theorem eqvInts : ∀ xs ys : List Int, PyData.eqvAll (xs.map .int) (ys.map .int) = decide (xs = ys)
  | [], [] => by simp [PyData.eqvAll]
  | [], y :: ys => by simp [PyData.eqvAll]
  | x :: xs, [] => by simp [PyData.eqvAll]
  | x :: xs, y :: ys => by
    rw [List.map_cons, List.map_cons, PyData.eqvAll, eqvInts xs ys, PyData.eqv, Bool.eq_iff_iff]
    simp
/-- == and != of what need not be equal -/
theorem w_eqE {K : PySem.W.Frag} {x y : V} {d e : PyData} {b : Bool} {H : Hp} {Q : VK} (h1 : Dp K H x d) (h2 : Dp K H y e) (s1 : SeqAt.shaped d = true) (s2 : SeqAt.shaped e = true) (hb : PyData.eqv d e = b) (q : Q (.bl b) H) : rEqD K x y H Q := ⟨d, e, h1, h2, s1, s2, by rw [hb]; exact q⟩
theorem w_neE {K : PySem.W.Frag} {x y : V} {d e : PyData} {b : Bool} {H : Hp} {Q : VK} (h1 : Dp K H x d) (h2 : Dp K H y e) (s1 : SeqAt.shaped d = true) (s2 : SeqAt.shaped e = true) (hb : PyData.eqv d e = b) (q : Q (.bl (!b)) H) : rNeD K x y H Q := ⟨d, e, h1, h2, s1, s2, by rw [hb]; exact q⟩
theorem w_allB {K : PySem.W.Frag} {a : Addr} {bs : List Bool} {H : Hp} {Q : VK} (h : H a = some (.lst (bs.map V.bl))) (q : Q (.bl (bs.all id)) H) : rAll K [.ref a] H Q := ⟨a, bs, rfl, .of h, q⟩
theorem w_anyB {K : PySem.W.Frag} {a : Addr} {bs : List Bool} {H : Hp} {Q : VK} (h : H a = some (.lst (bs.map V.bl))) (q : Q (.bl (bs.any id)) H) : rAny K [.ref a] H Q := ⟨a, bs, rfl, .of h, q⟩
theorem w_isiB {K : PySem.W.Frag} {b : Bool} {H : Hp} {Q : VK} (q : Q (.bl true) H) : rIsi K [.bl b, .ty "bool"] H Q := ⟨.bl b, .ty "bool", .type "bool", .type "bool", true, rfl, .ty _, .base (.bl _), kit_ty (by decide +kernel), q⟩
theorem w_gTupS {K : PySem.W.Frag} {n : Nat} {t : TGs} {a : Addr} {xs : List V} {σ : L2.St} {H : Hp} {Q : L2.St → Hp → Prop} (h : SqT K H a xs) (hn : xs.length = n) (q : t xs σ H Q) : gTup K n t (.ref a) σ H Q := ⟨a, xs, rfl, h, hn, q⟩
def rIsNQ : R2 := fun x y H Q => y = .non ∧ Q (.bl (decide (x = .non))) H
def rNotNQ : R2 := fun x y H Q => y = .non ∧ Q (.bl (!decide (x = .non))) H
theorem op_isNQ {X : Cx} : OpR X (compareOp .Is) rIsNQ := op_isN
theorem op_notNQ {X : Cx} : OpR X (compareOp .IsNot) rNotNQ := op_notN
theorem w_isNN {H : Hp} {Q : VK} (q : Q (.bl true) H) : rIsNQ .non .non H Q := ⟨rfl, q⟩
theorem w_isNR {a : Addr} {H : Hp} {Q : VK} (q : Q (.bl false) H) : rIsNQ (.ref a) .non H Q := ⟨rfl, q⟩
theorem w_notNN {H : Hp} {Q : VK} (q : Q (.bl false) H) : rNotNQ .non .non H Q := ⟨rfl, q⟩
theorem w_notNR {a : Addr} {H : Hp} {Q : VK} (q : Q (.bl true) H) : rNotNQ (.ref a) .non H Q := ⟨rfl, q⟩
theorem w_par {i j : Nat} {ta : TA} {D : Ends} {σ : L2.St} {H : Hp} (q : ta σ H fun vs H1 => ∃ v w, vs = [v, w] ∧ D.nx ((σ.set i (some v)).set j (some w)) H1) : tPar i j ta D σ H := q
theorem w_par3 {i j l : Nat} {ta : TA} {D : Ends} {σ : L2.St} {H : Hp} (q : ta σ H fun vs H1 => ∃ u v w, vs = [u, v, w] ∧ D.nx (((σ.set i (some u)).set j (some v)).set l (some w)) H1) : tPar3 i j l ta D σ H := q
theorem w_two {v w : V} {B : V → V → Prop} (q : B v w) : ∃ v' w', [v, w] = [v', w'] ∧ B v' w' := ⟨v, w, rfl, q⟩
theorem w_three {u v w : V} {B : V → V → V → Prop} (q : B u v w) : ∃ u' v' w', [u, v, w] = [u', v', w'] ∧ B u' v' w' := ⟨u, v, w, rfl, q⟩
theorem w_catL {l b : Addr} {xs zs : List V} {H : Hp} {Q : VK} (h1 : H l = some (.lst xs)) (h2 : H b = some (.lst zs)) (hl : xs.length + zs.length ≤ sizeLine) (q : ∀ p H', H p = none → Same H H' → H' p = some (.lst (xs ++ zs)) → Q (.ref p) H') : rCat (.ref l) (.ref b) H Q :=
  ⟨l, b, xs, zs, rfl, rfl, h1, h2, hl, fun p np => q p _ np (fun b x e => by rw [upd_ne (ne_of_none e np)]; exact e) upd_same⟩
end Co

set_option Elab.async false
set_option linter.all false
set_option maxRecDepth 100000
set_option maxHeartbeats 4000000
namespace Co
open PySem PySem.Spec PyProof.Rows L2
/-! ### d.get(k), d.get(k, x) of a dict of the module -/
/-- what stands under a key: a value, or nothing -/
def KGet (K : PySem.W.Frag) (w : World) (a : Addr) (x : Str) (o : Option V) : Prop :=
  ∃ es n, K.lookup a = some ⟨.type "dict", none, .dict es n, #[]⟩ ∧ PySem.W.KeysLit w.params es.toList ∧ (a == sysModules) = false ∧ ((o = none ∧ PySem.W.nsIn K a x = some none) ∨ ∃ v u, o = some v ∧ PySem.W.nsIn K a x = some (some u) ∧ RelV v u)
def tKGet1 (K : PySem.W.Frag) (w : World) (td ty : TE) : TE := fun σ H Q => td σ H fun x H1 => ∃ a, x = .ref a ∧ (∃ z o, KGet K w a z o) ∧ ty σ H1 fun y H2 => ∃ z o, y = .str z ∧ KGet K w a z o ∧ Q (o.getD .non) H2
def tKGet2 (K : PySem.W.Frag) (w : World) (td ty tx : TE) : TE := fun σ H Q => td σ H fun x H1 => ∃ a, x = .ref a ∧ (∃ z o, KGet K w a z o) ∧ ty σ H1 fun y H2 => tx σ H2 fun d H3 => ∃ z o, y = .str z ∧ KGet K w a z o ∧ Q (o.getD d) H3
section
variable {X : Cx} {pins : List (Addr × Obj)} {σ : L2.St} {H : Hp} {s : Shared} {a : Addr}
theorem kget_dict (I : Inv X pins σ H s) {z : Str} {o : Option V} (g : KGet X.K X.w a z o) : s.TypeIs (.ref a) "dict" ∧ (∀ b, Value.ref a = .ref b → ∃ ob, s.heap.get? b = some ob ∧ ob.dict = none) := by
  obtain ⟨es, n, hl, hk, _, _⟩ := g
  have e := I.kIn _ _ hl
  exact ⟨⟨_, e, rfl⟩, fun b q => by cases q; exact ⟨_, e, rfl⟩⟩
theorem kget_val {z : Str} {o : Option V} (g : KGet X.K X.w a z o) : ∃ es n, X.K.lookup a = some ⟨.type "dict", none, .dict es n, #[]⟩ ∧ PySem.W.KeysLit X.w.params es.toList ∧ ((o = none ∧ PySem.findBy Value.isStrOf es z = none) ∨ ∃ v u, o = some v ∧ PySem.findBy Value.isStrOf es z = some u ∧ RelV v u) := by
  obtain ⟨es, n, hl, hk, _, h⟩ := g
  refine ⟨es, n, hl, hk, ?_⟩
  rcases h with ⟨e, h⟩ | ⟨v, u, e, h, r⟩
  · exact .inl ⟨e, PySem.W.find_K hl h⟩
  · exact .inr ⟨v, u, e, PySem.W.find_K hl h, r⟩
theorem kget1 {z : Str} {o : Option V} {t : Tok} {A : Around} {E : Value → Shared → Prop} {Q : Value → Shared → Prop} (I : Inv X pins σ H s) (g : KGet X.K X.w a z o) (h : ∀ w' s', Inv X pins σ H s' → RelV (o.getD .non) w' → Q w' s') :
    wpAny (model X.prog X.w) A (call (.builtin "dict.get") [.ref a, .str z t]) Q E s := by
  obtain ⟨es, n, hl, hk, hv⟩ := kget_val g
  obtain ⟨_, _, _, _, hm, _⟩ := id g
  have M := PySem.W.mapOf_K (prog := X.prog) (w := X.w) I.kIn hl hk
  refine call_meetsIn PySem.F.slot_dict_get M.typeIs PySem.F.entry_dict_get (PySem.F.args_dict_get_2 _ _) (meets_dict_get (strKind X.prog X.w) a (strKind_is X.prog X.w z t) hm) ⟨_, M, h _ _ (I.tok _) ?_⟩
  rcases hv with ⟨rfl, e⟩ | ⟨v, u, rfl, e, r⟩
  · rw [e]; rfl
  · rw [e]; exact r
theorem kget2 {z : Str} {o : Option V} {d : V} {r : Value} {t : Tok} {A : Around} {E : Value → Shared → Prop} {Q : Value → Shared → Prop} (I : Inv X pins σ H s) (g : KGet X.K X.w a z o) (rd : RelV d r) (h : ∀ w' s', Inv X pins σ H s' → RelV (o.getD d) w' → Q w' s') :
    wpAny (model X.prog X.w) A (call (.builtin "dict.get") [.ref a, .str z t, r]) Q E s := by
  obtain ⟨es, n, hl, hk, hv⟩ := kget_val g
  obtain ⟨_, _, _, _, hm, _⟩ := id g
  have M := PySem.W.mapOf_K (prog := X.prog) (w := X.w) I.kIn hl hk
  refine call_meetsIn PySem.F.slot_dict_get M.typeIs PySem.F.entry_dict_get (PySem.F.args_dict_get_3 _ _ _) (meets_dict_get_default (strKind X.prog X.w) a (strKind_is X.prog X.w z t) hm r) ⟨_, M, h _ _ (I.tok _) ?_⟩
  rcases hv with ⟨rfl, e⟩ | ⟨v, u, rfl, e, ru⟩
  · rw [e]; exact rd
  · rw [e]; exact ru
end
section
variable {X : Cx} {o e f : Expr} {apos cpos : Pos} {td ty tx : TE}
theorem pe_kget1 (ho : PE X o td) (he : PE X e ty) (m : M1 X o "get" apos e cpos := by first | exact ⟨rfl, rfl, rfl, rfl⟩ | exact ⟨by rfl, by rfl, by rfl, by rfl⟩) : PE X (.Call (.Attribute o "get" apos) [e] [] cpos) (tKGet1 X.K X.w td ty) := by
  refine ⟨fun pins s σ H Q I h => ?_⟩
  refine wpAny_Call_method m.base m.few m.line PySem.F.plainAttrs_dict PySem.F.slot_dict_get PySem.F.type_dict_get (thn (ho.run pins s σ H _ I h) fun u s1 ⟨x, H1, I1, rx, a, ex, ⟨z0, o0, g0⟩, q1⟩ => ?_)
  subst ex
  obtain rfl : u = Value.ref a := rx
  obtain ⟨t1, t2⟩ := kget_dict I1 g0
  refine ⟨t1, t2, ?_⟩
  rw [m.trees]
  refine Calls.callWith_builtin rfl (Calls.evalArgs_plain (Calls.spliced_cons (thn (he.run pins s1 σ H1 _ I1 q1) fun iv s2 ⟨y, H2, I2, ry, z, ov, ey, g, q2⟩ => Calls.spliced_nil ?_)))
  subst ey
  obtain ⟨t, rfl⟩ := ry
  exact kget1 I2 g fun w' s3 I3 rw' => ⟨_, H2, I3, rw', q2⟩
theorem pe_kget2 (ho : PE X o td) (he : PE X e ty) (hf : PE X f tx) (m : M2 X o "get" apos e f cpos := by first | exact ⟨rfl, rfl, rfl, rfl⟩ | exact ⟨by rfl, by rfl, by rfl, by rfl⟩) : PE X (.Call (.Attribute o "get" apos) [e, f] [] cpos) (tKGet2 X.K X.w td ty tx) := by
  refine ⟨fun pins s σ H Q I h => ?_⟩
  refine wpAny_Call_method m.base m.few m.line PySem.F.plainAttrs_dict PySem.F.slot_dict_get PySem.F.type_dict_get (thn (ho.run pins s σ H _ I h) fun u s1 ⟨x, H1, I1, rx, a, ex, ⟨z0, o0, g0⟩, q1⟩ => ?_)
  subst ex
  obtain rfl : u = Value.ref a := rx
  obtain ⟨t1, t2⟩ := kget_dict I1 g0
  refine ⟨t1, t2, ?_⟩
  rw [m.trees]
  refine Calls.callWith_builtin rfl (Calls.evalArgs_plain (Calls.spliced_cons (thn (he.run pins s1 σ H1 _ I1 q1) fun iv s2 ⟨y, H2, I2, ry, q2⟩ =>
    Calls.spliced_cons (thn (hf.run pins s2 σ H2 _ I2 q2) fun fv s3 ⟨d, H3, I3, rz, z, ov, ey, g, q3⟩ => Calls.spliced_nil ?_))))
  subst ey
  obtain ⟨t, rfl⟩ := ry
  exact kget2 I3 g rz fun w' s4 I4 rw' => ⟨_, H3, I4, rw', q3⟩
end
theorem w_kget1 {K : PySem.W.Frag} {w : World} {td ty : TE} {σ : L2.St} {H : Hp} {Q : VK} (q : td σ H fun x H1 => ∃ a, x = .ref a ∧ (∃ z o, KGet K w a z o) ∧ ty σ H1 fun y H2 => ∃ z o, y = .str z ∧ KGet K w a z o ∧ Q (o.getD .non) H2) : tKGet1 K w td ty σ H Q := q
theorem w_kget2 {K : PySem.W.Frag} {w : World} {td ty tx : TE} {σ : L2.St} {H : Hp} {Q : VK} (q : td σ H fun x H1 => ∃ a, x = .ref a ∧ (∃ z o, KGet K w a z o) ∧ ty σ H1 fun y H2 => tx σ H2 fun d H3 => ∃ z o, y = .str z ∧ KGet K w a z o ∧ Q (o.getD d) H3) : tKGet2 K w td ty tx σ H Q := q
/-! ### a def that a table holds -/
structure StF (K : PySem.W.Frag) (q : Str) (st : Stmt) (ps : List Str) (f : Addr) : Prop where
  ex : ∃ fd, Fun K q q st f fd ∧ Binds K fd ps []
theorem StF.cd {P : Program} {w : World} {K : PySem.W.Frag} {mg : Str → Option Value} {base : Heap} {x : Str} {st : Stmt} {k : Nat} {f : Addr} {N ps : List Str} {sp : Sp} (Z : StF K x st ps f) (S : FnScope N ps (defScope st)) (len : ∀ vs H Q E, sp vs H Q E → vs.length = ps.length)
    (hbody : ∀ (f : Addr) (cdv : Value) (A : Around) (outer : List Env) (s : Shared) (H : Hp) (vs : List V) (Q : VK) (E : XK), Room k (A.deeper (envOfC x (defScope st) s.heap.objs.size f cdv)) → sp vs H Q E →
      ∃ t, PSs (cxOf CX0 P w K mg base N x (defScope st) f cdv A outer s H E).nox (defBody st) t ∧ t { nx := fun _ H' => Q .non H', rt := Q } (start N vs) H) : Held P w K mg base (k + 1) f sp := by
  obtain ⟨fd, F, b⟩ := Z.ex
  exact ⟨⟨fd, ps, F.ok S len (hbody f), F.kp, b⟩⟩
theorem mkStF {K : PySem.W.Frag} {x : Str} {st : Stmt} {ps : List Str} {f : Addr} {oc : Value} {od an : Option Addr} {osl : Array (Option Value)} {kV doc pm cdv ct : Value}
    (l : K.lookup f = some ⟨oc, od, .func (PySem.W.fnOf x x (defArgs st) (defBody st) (defScope st) .none kV doc pm an cdv ct), osl⟩) (c : PySem.W.codeIn K cdv x = true) (k : PySem.W.keepIn K (.ref f) = true)
    (hb : ∀ (kV doc pm : Value) (an : Option Addr) (cdv ct : Value) (us : List Value), us.length = ps.length → bindArgs (PySem.W.fnOf x x (defArgs st) (defBody st) (defScope st) .none kV doc pm an cdv ct) ⟨us, []⟩ = pure (ps.zip us)) : StF K x st ps f :=
  ⟨_, fun_mk (st := st) l c k, (fun_mk (st := st) l c k).binds hb⟩
end Co

set_option Elab.async false
set_option linter.all false
set_option maxRecDepth 100000
set_option maxHeartbeats 4000000
namespace Co
open PySem PySem.Spec PyProof.Rows L2
/-! ### sorted(found) of a set of ints, also of 64 and more -/
section
variable {P : Program} {w : World} {A : Around} {E : Value → Shared → Prop} {s : Shared} {a : Addr}
/-- what sorted leaves: all as it was, and a new list of the members in ascending order -/
structure SortedOut (s : Shared) (S : Int → Bool) (n : Nat) (p : Addr) (ns : List Int) (s' : Shared) : Prop where
  old : ∀ b o, s.heap.get? b = some o → s'.heap.get? b = some o
  gens : s'.gens = s.gens
  os : s'.os = s.os
  new : s.heap.objs.size ≤ p
  row : ∃ (out : Array Value) (c : Nat), s'.heap.get? p = some (seqObj "list" out c) ∧ IntsAre out.toList ns
  asc : ns.Pairwise (· < ·)
  mem : ∀ k, k ∈ ns ↔ S k = true
  len : ns.length = n
theorem sortedSet_any {S : Int → Bool} {n : Nat} {Q : Value → Shared → Prop} (R : SetR w s.heap a S n) (hh : A.handled = none) (hz : n ≤ sizeLine) (hQ : ∀ s' p ns, SortedOut s S n p ns s' → Q (.ref p) s') :
    wpAny (model P w) A (call (.builtin "sorted") [.ref a]) Q E s := by
  obtain ⟨o, es, ep, t, at1, exact1, dat, good, nodup, memb, room, fits, size, ris, led⟩ := R
  refine Calls.call_function_entry kind_sorted plain_sorted entry_sorted (args_sorted1 _) ?_
  unfold Builtin.«sorted»
  refine wpAny_bind (m := checkCount "sorted" 1 1 _) (wpAny_pure (wpAny_bind (collect_set (A := A.in1) hh ⟨o, at1, exact1.1, dat⟩ fits room ris led ?_)))
  intro s1 vs keep1 _ gens1 os1 perm1
  have lvs : vs.length = n := by simpa [size] using perm1.length_eq
  have each : ∀ v ∈ vs, ∃ (k : Int) (tk : Tok), v = .int k tk := fun v hv => by
    obtain ⟨e, he, rfl⟩ := List.mem_map.mp (perm1.mem_iff.mp hv)
    obtain ⟨k, tk, h1, _⟩ := good e he
    exact ⟨k, tk, h1⟩
  have keys : (vs.map Builtin.Re.reRawOf).Perm (es.toList.map keyOf) := (perm1.map Builtin.Re.reRawOf).trans (.of_eq (by rw [List.map_map]; rfl))
  have areInts : IntsAre vs (vs.map Builtin.Re.reRawOf) := ints_of vs each
  have hv : vs.length ≤ sizeLine := by omega
  refine wpAny_bind (wpAny_newList ?_ hv)
  have there : (s1.heap.push (seqObj "list" vs.toArray 0)).get? s1.heap.objs.size = some (seqObj "list" vs.toArray 0) := Heap.get?_push_size _ rfl
  refine wpAny_bind (wpAny_holding (wpAny_call_entry slot_list_sort ⟨_, there, rfl⟩ entry_list_sort (list_sort_treeAny there areInts hv ?_) (args_list_sort _)))
  intro out ns arow aperm asc
  have all := aperm.trans keys
  refine ⟨_, rfl, wpAny_pure ⟨_, rfl, hQ _ _ ns ⟨fun b u e => ?_, gens1, os1, ‹_›, ?_, lt_of_le_nodup ns asc (all.nodup_iff.mpr nodup), fun k => by rw [all.mem_iff, memb k], by simpa [size] using all.length_eq⟩⟩⟩
  · have q := keep1 b u e
    have lt := Heap.lt_size q
    show (sortedHeap (s1.heap.push (seqObj "list" vs.toArray 0)) s1.heap.objs.size vs out).get? b = some u
    rw [sortedHeap_old (Nat.ne_of_lt lt) (by rw [size_push']; exact Nat.lt_succ_of_lt lt)]
    exact Heap.get?_push_of_some _ q
  · obtain ⟨c, hc⟩ := sortedHeap_at (vs := vs) (out := out) there
    exact ⟨out, c, hc, arow⟩
end
def rSortedB (w : World) : List V → Hp → VK → Prop := fun vs H Q => ∃ (a : Addr) (S : Int → Bool) (n : Nat), vs = [V.ref a] ∧ H a = some (SetO w a S n) ∧ n ≤ 1000 ∧
  ∀ (ns : List Int) (p : Addr) (H' : Hp), ns.Pairwise (· < ·) → (∀ k : Int, k ∈ ns ↔ S k = true) → ns.length = n → H p = none → Same H H' → H' p = some (.lst (ns.map V.int)) → Q (.ref p) H'
theorem cr_sortedB {X : Cx} (hc : X.calm = true) : CallR X (.builtin "sorted") (rSortedB X.w) := by
  intro pins s σ H vs us Q I r h
  obtain ⟨a, S, n, rfl, ha, hn, q⟩ := h
  have small : n ≤ sizeLine := Nat.le_trans hn (by decide)
  rw [Vals.ref1 r]
  refine sortedSet_any (setO_get I ha) (I.ok.hd hc) small fun s' p ns z => ?_
  have free : H p = none := I.hok.fresh z.new
  obtain ⟨out, c, at1, row⟩ := z.row
  have ok1 : ObjOk X.prog X.w (upd H p (.lst (ns.map V.int))) s'.heap p (.lst (ns.map V.int)) := ⟨by rw [List.length_map, z.len]; exact small, out.toList, c, vals_of_ints row, at1⟩
  have J : Inv X pins σ (upd H p (.lst (ns.map V.int))) { s with heap := s'.heap, gens := s'.gens, drawn := s'.drawn, toks := s'.toks } :=
    I.call (ch := []) (Un.laid z.old z.new free) (I.hok.laid z.old z.new ok1) (by rw [z.gens]; exact I.bare) (fun _ z => nomatch z)
  have same : s' = { s with heap := s'.heap, gens := s'.gens, drawn := s'.drawn, toks := s'.toks } := by
    have o := z.os
    cases s'; cases s; cases o; rfl
  rw [same]
  exact ⟨.ref p, _, J, rfl, q ns p _ z.asc z.mem z.len free (Same.new free) upd_same⟩
theorem w_sortedB {w : World} {a : Addr} {S : Int → Bool} {n : Nat} {H : Hp} {Q : VK} (h : H a = some (SetO w a S n)) (hn : n ≤ 1000) (q : ∀ (ns : List Int) (p : Addr) H', ns.Pairwise (· < ·) → (∀ k : Int, k ∈ ns ↔ S k = true) → ns.length = n → H p = none → Same H H' → H' p = some (.lst (ns.map V.int)) → Q (.ref p) H') : rSortedB w [.ref a] H Q :=
  ⟨a, S, n, rfl, h, hn, q⟩
theorem w_sortedOfB {w : World} {D : Addr} {ns : List Int} {c : Nat} {H : Hp} {Q : VK} (h : H D = some (SetO w D (fun j => decide (j ∈ ns)) c)) (hc : c ≤ 1000) (q : ∀ (ms : List Int) (p : Addr) H', ms.Pairwise (· < ·) → (∀ k : Int, k ∈ ms ↔ k ∈ ns) → ms.length = c → H p = none → Same H H' → H' p = some (.lst (ms.map V.int)) → Q (.ref p) H') : rSortedB w [.ref D] H Q :=
  w_sortedB h hc fun ms p H' h1 h2 h3 h4 h5 h6 => q ms p H' h1 (fun k => (h2 k).trans decide_eq_true_iff) h3 h4 h5 h6
/-! ### a list's comprehension of two clauses, over tuples -/
/-- the inner clause's loop -/
def kIn2 (g1 : TG) (tt1 : TT) (te : TE) (vs1 : List Nat) (σ2 : L2.St) (D : Addr) (Nx : Hp → Prop) : It → Hp → Prop := fun J1 H4 => ∃ W1 : Nat → Nat → Hp → Prop, (∃ m, W1 0 m H4) ∧ ∀ j k H, W1 j k H →
  (J1.stop j H ∧ Nx H) ∨ (J1.go j H ∧ ∃ Nx1 : Hp → Prop, (∀ H', Nx1 H' → ∃ k', k' < k ∧ W1 (j + 1) k' H') ∧ ∀ x H', J1.yld j H x H' → g1 x (wipe σ2 vs1) H' fun σ3 H5 => wipe σ3 vs1 = wipe σ2 vs1 ∧ tt1 σ3 H5 fun b H6 =>
    if b = true then te σ3 H6 fun y H7 => ∃ acc, H7 D = some (.lst acc) ∧ acc.length < sizeLine ∧ Nx1 (upd H7 D (.lst (acc ++ [y]))) else Nx1 H6)
/-- the whole, from its first source's iterator on -/
def kLc2 (g : TG) (tt : TT) (wi1 : TI) (g1 : TG) (tt1 : TT) (te : TE) (vs vs1 : List Nat) (σ : L2.St) (Q : VK) : It → Hp → Prop := fun J H1 => ∀ D, H1 D = none → ∃ W : Nat → Nat → Hp → Prop, (∃ m, W 0 m (upd H1 D (.lst []))) ∧ ∀ i m H, W i m H →
  (J.stop i H ∧ Q (.ref D) H) ∨ (J.go i H ∧ ∃ Nx : Hp → Prop, (∀ H', Nx H' → ∃ m', m' < m ∧ W (i + 1) m' H') ∧ ∀ x H', J.yld i H x H' → g x (wipe σ vs) H' fun σ2 H2 => wipe σ2 vs = wipe σ vs ∧ tt σ2 H2 fun b H3 =>
    if b = true then wi1 σ2 H3 (kIn2 g1 tt1 te vs1 σ2 D Nx) else Nx H3)
theorem w_lc2 {wi : TI} {g : TG} {tt : TT} {wi1 : TI} {g1 : TG} {tt1 : TT} {te : TE} {vs vs1 : List Nat} {σ : L2.St} {H : Hp} {Q : VK} (q : wi σ H (kLc2 g tt wi1 g1 tt1 te vs vs1 σ Q)) : tLc2 wi g tt wi1 g1 tt1 te vs vs1 σ H Q := q
theorem w_lc2T {K : PySem.W.Frag} {g : TG} {tt : TT} {wi1 : TI} {g1 : TG} {tt1 : TT} {te : TE} {vs vs1 : List Nat} {σ : L2.St} {H : Hp} {Q : VK} {a : Addr} (xs : List V) (Pv : Addr → Nat → Hp → Prop) (hS : SqT K H a xs) (h0 : ∀ D, H D = none → Pv D 0 (upd H D (.lst []))) (hl : ∀ D i H, Pv D i H → SqT K H a xs)
    (hs : ∀ D i x H, xs[i]? = some x → Pv D i H → g x (wipe σ vs) H fun σ2 H2 => wipe σ2 vs = wipe σ vs ∧ tt σ2 H2 fun b H3 => if b = true then wi1 σ2 H3 (kIn2 g1 tt1 te vs1 σ2 D (Pv D (i + 1))) else Pv D (i + 1) H3)
    (hd : ∀ D H', H D = none → Pv D xs.length H' → Q (.ref D) H') : kIT K (kLc2 g tt wi1 g1 tt1 te vs vs1 σ Q) (.ref a) H := by
  refine ⟨a, rfl, ⟨_, hS⟩, fun D nD => ⟨fun i m H => m = xs.length - i ∧ i ≤ xs.length ∧ Pv D i H, ⟨xs.length, by simp, Nat.zero_le _, h0 D nD⟩, ?_⟩⟩
  rintro i m H' ⟨rfl, hi, p⟩
  rcases Nat.lt_or_ge i xs.length with lt | ge
  · refine .inr ⟨⟨xs, xs[i], hl D i H' p, by simp [lt]⟩, Pv D (i + 1), fun H2 p2 => ⟨xs.length - (i + 1), by omega, rfl, lt, p2⟩, fun v H2 y => ?_⟩
    obtain ⟨rfl, e⟩ : H2 = H' ∧ xs[i]? = some v := ⟨y.1, y.2 xs (hl D i H' p)⟩
    exact hs D i v _ e p
  · obtain rfl : i = xs.length := by omega
    exact .inl ⟨⟨xs, hl D _ H' p, Nat.le_refl _⟩, hd D H' nD p⟩
theorem w_in2T {K : PySem.W.Frag} {g1 : TG} {tt1 : TT} {te : TE} {vs1 : List Nat} {σ2 : L2.St} {D b : Addr} {Nx : Hp → Prop} {H : Hp} (ys : List V) (Pw : Nat → Hp → Prop) (hS : SqT K H b ys) (h0 : Pw 0 H) (hl : ∀ i H, Pw i H → SqT K H b ys)
    (hs : ∀ j y H, ys[j]? = some y → Pw j H → g1 y (wipe σ2 vs1) H fun σ3 H5 => wipe σ3 vs1 = wipe σ2 vs1 ∧ tt1 σ3 H5 fun b H6 =>
      if b = true then te σ3 H6 fun y H7 => ∃ acc, H7 D = some (.lst acc) ∧ acc.length < sizeLine ∧ Pw (j + 1) (upd H7 D (.lst (acc ++ [y]))) else Pw (j + 1) H6)
    (hd : ∀ H, Pw ys.length H → Nx H) : kIT K (kIn2 g1 tt1 te vs1 σ2 D Nx) (.ref b) H := by
  refine ⟨b, rfl, ⟨_, hS⟩, fun i m H => m = ys.length - i ∧ i ≤ ys.length ∧ Pw i H, ⟨ys.length, by simp, Nat.zero_le _, h0⟩, ?_⟩
  rintro i m H' ⟨rfl, hi, p⟩
  rcases Nat.lt_or_ge i ys.length with lt | ge
  · refine .inr ⟨⟨ys, ys[i], hl i H' p, by simp [lt]⟩, Pw (i + 1), fun H2 p2 => ⟨ys.length - (i + 1), by omega, rfl, lt, p2⟩, fun v H2 y => ?_⟩
    obtain ⟨rfl, e⟩ : H2 = H' ∧ ys[i]? = some v := ⟨y.1, y.2 ys (hl i H' p)⟩
    exact hs i v _ e p
  · obtain rfl : i = ys.length := by omega
    exact .inl ⟨⟨ys, hl _ H' p, Nat.le_refl _⟩, hd H' p⟩
theorem pi_tupK {X : Cx} {K' : PySem.W.Frag} {tg l : Expr} {tl : TE} (hK : X.K = K') (hl : PE X l tl) : PI X tg l (iTup K' tl) := by subst hK; exact pi_tup hl
theorem pi_listK {X : Cx} {K' : PySem.W.Frag} {tg l : Expr} {tl : TE} (hK : X.K = K') (hl : PE X l tl) : PI X tg l (iList K' tl) := by subst hK; exact pi_list hl
end Co

set_option Elab.async false
set_option linter.all false
set_option maxRecDepth 100000
set_option maxHeartbeats 4000000
namespace Co
open PySem PySem.Spec PyProof.Rows L2
/-! ### objects of a class: methods, fields, new ones -/
/-- the class with the names of its fields -/
structure Ob (K : PySem.W.Frag) (C : Addr) (fs : List Str) : Prop where
  cl : Cls K C
  na : ∀ f ∈ fs, NoAttr K C f
/-- the method m of C keeps a promise -/
structure Md (P : Program) (w : World) (K : PySem.W.Frag) (mg : Str → Option Value) (base : Heap) (k : Nat) (C : Addr) (m : Str) (sp : Sp) : Prop where
  ex : ∃ (f : Addr) (fd : FuncData) (ps : List Str), FnOk P w K mg base CX0 k f fd ps sp ∧ Meth K C m f ∧ Binds K fd ps []
def tMd (C : Addr) (m : Str) (sp : Sp) (ta : TE) (t : TA) : TE := fun σ H Q => ta σ H fun x H1 => ∃ a dx fs, x = .ref a ∧ H1 a = some (.ins C dx fs) ∧ fs.lookup m = none ∧ t σ H1 fun vs H2 => sp (x :: vs) H2 Q E0
section
variable {X : Cx} {k j : Nat} {m f : Str} {C : Addr} {sp : Sp} {apos pos p : Pos} {o e : Expr} {es : List Expr} {ta : TE} {t : TA}
theorem pe_md {pl : Sem Bool} (c : Cls X.K C) (d : Md X.prog X.w X.K X.mg X.base k C m sp) (hr : Room j X.A) (hk : k ≤ j) (ho : PE X o ta) (ha : PA X (e :: es) t)
    (hst : starEach (e :: es) X.env = (false, eval e X.env) :: starEach es X.env := by rfl) (hpl : (backTo pos (starEach es X.env)).any (·.1) = false := by rfl)
    (ht : eval (.Call (.Attribute o m apos) (e :: es) [] pos) X.env = (do
      let ov ← eval o X.env
      standAt apos.atName
      let (g, first) ← holding [ov] (getMethod ov m pl)
      callWith pos g first (backTo pos (starEach (e :: es) X.env)) (backToKw pos (keywordEach [] X.env))) := by rfl) :
    PE X (.Call (.Attribute o m apos) (e :: es) [] pos) (tMd C m sp ta t) := by
  obtain ⟨f, fd, ps, F, hm, b⟩ := d.ex
  have z := pe_meth (dvs := []) (E := E0) ho c hm F (hr.mono hk) b .nil pass0 ha hst hpl ht
  refine ⟨fun pins s σ H Q I h => z.run pins s σ H Q I ?_⟩
  refine (?_ : tMd C m sp ta t = tMeth C m sp [] E0 ta t) ▸ h
  unfold tMd tMeth
  simp only [List.append_nil]
theorem pe_md0 {pl : Sem Bool} (c : Cls X.K C) (d : Md X.prog X.w X.K X.mg X.base k C m sp) (hr : Room j X.A) (hk : k ≤ j) (ho : PE X o ta)
    (ht : eval (.Call (.Attribute o m apos) [] [] pos) X.env = (do
      let ov ← eval o X.env
      standAt apos.atName
      let (g, first) ← holding [ov] (getMethod ov m pl)
      callWith pos g first (backTo pos (starEach [] X.env)) (backToKw pos (keywordEach [] X.env))) := by rfl) :
    PE X (.Call (.Attribute o m apos) [] [] pos) (tMd C m sp ta tNil) := by
  obtain ⟨f, fd, ps, F, hm, b⟩ := d.ex
  exact pe_meth0 (dvs := []) (E := E0) ho c hm F (hr.mono hk) b .nil pass0 ht
end
/-- the class x makes objects -/
structure Mkr (P : Program) (w : World) (K : PySem.W.Frag) (mg : Str → Option Value) (base : Heap) (k : Nat) (x : Str) (C : Addr) (sp : Sp) : Prop where
  ex : ∃ (f : Addr) (fd : FuncData) (ps : List Str), FnOk P w K mg base CX0 k f fd ps sp ∧ Mk K C f ∧ Binds K fd ps [] ∧ mg x = some (.ref C)
def tMkr (C : Addr) (sp : Sp) (t : TA) : TE := fun σ H Q => t σ H fun vs H1 => ∀ x dx, H1 x = none → H1 dx = none → dx ≠ x → sp (.ref x :: vs) (upd (upd H1 dx (.own x)) x (.ins C dx [])) (fun v H2 => v = .non ∧ Q (.ref x) H2) E0
theorem pe_mkr {X : Cx} {k j : Nat} {x : Str} {C : Addr} {sp : Sp} {pos p : Pos} {e : Expr} {es : List Expr} {t : TA} (c : Mkr X.prog X.w X.K X.mg X.base k x C sp) (hr : Room j X.A) (hk : k + 1 ≤ j) (hg : Gl X x) (ha : PA X (e :: es) t)
    (hdb : (x == ("__debug__" : Str)) = false := by decide) (he : starEach (e :: es) X.env = (false, eval e X.env) :: starEach es X.env := by rfl) (hpl : (backTo pos (starEach es X.env)).any (·.1) = false := by rfl) :
    PE X (.Call (.Name x p) (e :: es) [] pos) (tMkr C sp t) := by
  obtain ⟨f, fd, ps, F, M, b, hm⟩ := c.ex
  have z := pe_make (dvs := []) (E := E0) (pos := pos) (p := p) M F (hr.mono hk) hg hm b .nil pass0 ha hdb he hpl
  refine ⟨fun pins s σ H Q I h => z.run pins s σ H Q I ?_⟩
  refine (?_ : tMkr C sp t = tMake C sp [] E0 t) ▸ h
  unfold tMkr tMake
  simp only [List.append_nil]
/-- a method that stands -/
structure StM (K : PySem.W.Frag) (C : Addr) (m qual : Str) (st : Stmt) (ps : List Str) : Prop where
  ex : ∃ f fd, Fun K m qual st f fd ∧ Binds K fd ps [] ∧ Meth K C m f
theorem StM.md {P : Program} {w : World} {K : PySem.W.Frag} {mg : Str → Option Value} {base : Heap} {C : Addr} {m qual : Str} {st : Stmt} {k : Nat} {N ps : List Str} {sp : Sp} (Z : StM K C m qual st ps) (S : FnScope N ps (defScope st)) (len : ∀ vs H Q E, sp vs H Q E → vs.length = ps.length)
    (hbody : ∀ (f : Addr) (cdv : Value) (A : Around) (outer : List Env) (s : Shared) (H : Hp) (vs : List V) (Q : VK) (E : XK), Room k (A.deeper (envOfC qual (defScope st) s.heap.objs.size f cdv)) → sp vs H Q E →
      ∃ t, PSs (cxOf CX0 P w K mg base N qual (defScope st) f cdv A outer s H E).nox (defBody st) t ∧ t { nx := fun _ H' => Q .non H', rt := Q } (start N vs) H) : Md P w K mg base (k + 1) C m sp := by
  obtain ⟨f, fd, F, b, hm⟩ := Z.ex
  exact ⟨⟨f, fd, ps, F.ok S len (hbody f), hm, b⟩⟩
theorem mkStM {K : PySem.W.Frag} {C : Addr} {m qual : Str} {st : Stmt} {ps : List Str} {f : Addr} {oc : Value} {od an : Option Addr} {osl : Array (Option Value)} {kV doc pm cdv ct : Value}
    (a : PySem.W.findIn K (.ref C) m = some (some (.ref f))) (i : PySem.W.isFn K (.ref f) = true) (l : K.lookup f = some ⟨oc, od, .func (PySem.W.fnOf m qual (defArgs st) (defBody st) (defScope st) .none kV doc pm an cdv ct), osl⟩) (c : PySem.W.codeIn K cdv qual = true) (k : PySem.W.keepIn K (.ref f) = true)
    (hb : ∀ (kV doc pm : Value) (an : Option Addr) (cdv ct : Value) (us : List Value), us.length = ps.length → bindArgs (PySem.W.fnOf m qual (defArgs st) (defBody st) (defScope st) .none kV doc pm an cdv ct) ⟨us, []⟩ = pure (ps.zip us)) : StM K C m qual st ps :=
  ⟨f, _, fun_mk (st := st) l c k, (fun_mk (st := st) l c k).binds hb, a, i, k⟩
/-- the standing __init__ of a class that makes objects -/
structure StI (K : PySem.W.Frag) (mg : Str → Option Value) (x : Str) (C : Addr) (qual : Str) (st : Stmt) (ps : List Str) : Prop where
  ex : ∃ f fd, Fun K "__init__" qual st f fd ∧ Binds K fd ps [] ∧ Mk K C f ∧ mg x = some (.ref C)
theorem StI.mkr {P : Program} {w : World} {K : PySem.W.Frag} {mg : Str → Option Value} {base : Heap} {x : Str} {C : Addr} {qual : Str} {st : Stmt} {k : Nat} {N ps : List Str} {sp : Sp} (Z : StI K mg x C qual st ps) (S : FnScope N ps (defScope st)) (len : ∀ vs H Q E, sp vs H Q E → vs.length = ps.length)
    (hbody : ∀ (f : Addr) (cdv : Value) (A : Around) (outer : List Env) (s : Shared) (H : Hp) (vs : List V) (Q : VK) (E : XK), Room k (A.deeper (envOfC qual (defScope st) s.heap.objs.size f cdv)) → sp vs H Q E →
      ∃ t, PSs (cxOf CX0 P w K mg base N qual (defScope st) f cdv A outer s H E).nox (defBody st) t ∧ t { nx := fun _ H' => Q .non H', rt := Q } (start N vs) H) : Mkr P w K mg base (k + 1) x C sp := by
  obtain ⟨f, fd, F, b, hm, hg⟩ := Z.ex
  exact ⟨⟨f, fd, ps, F.ok S len (hbody f), hm, b, hg⟩⟩
theorem mkStI {K : PySem.W.Frag} {mg : Str → Option Value} {x : Str} {C : Addr} {qual : Str} {st : Stmt} {ps : List Str} {f : Addr} {oc : Value} {od an : Option Addr} {osl : Array (Option Value)} {kV doc pm cdv ct : Value}
    (mx : mg x = some (.ref C)) (mk : PySem.W.makesIn K C = true) (kc : PySem.W.keepIn K (.ref C) = true)
    (a : PySem.W.findIn K (.ref C) "__init__" = some (some (.ref f))) (i : PySem.W.isFn K (.ref f) = true) (l : K.lookup f = some ⟨oc, od, .func (PySem.W.fnOf "__init__" qual (defArgs st) (defBody st) (defScope st) .none kV doc pm an cdv ct), osl⟩) (c : PySem.W.codeIn K cdv qual = true) (k : PySem.W.keepIn K (.ref f) = true)
    (hb : ∀ (kV doc pm : Value) (an : Option Addr) (cdv ct : Value) (us : List Value), us.length = ps.length → bindArgs (PySem.W.fnOf "__init__" qual (defArgs st) (defBody st) (defScope st) .none kV doc pm an cdv ct) ⟨us, []⟩ = pure (ps.zip us)) : StI K mg x C qual st ps :=
  ⟨f, _, fun_mk (st := st) l c k, (fun_mk (st := st) l c k).binds hb, ⟨mk, a, i, kc⟩, mx⟩
/-- a def that stands under another name -/
structure StA (K : PySem.W.Frag) (mg : Str → Option Value) (x q : Str) (st : Stmt) (ps : List Str) : Prop where
  ex : ∃ f fd, Fun K q q st f fd ∧ Binds K fd ps [] ∧ mg x = some (.ref f)
theorem StA.cd {P : Program} {w : World} {K : PySem.W.Frag} {mg : Str → Option Value} {base : Heap} {x q : Str} {st : Stmt} {k : Nat} {N ps : List Str} {sp : Sp} (Z : StA K mg x q st ps) (S : FnScope N ps (defScope st)) (len : ∀ vs H Q E, sp vs H Q E → vs.length = ps.length)
    (hbody : ∀ (f : Addr) (cdv : Value) (A : Around) (outer : List Env) (s : Shared) (H : Hp) (vs : List V) (Q : VK) (E : XK), Room k (A.deeper (envOfC q (defScope st) s.heap.objs.size f cdv)) → sp vs H Q E →
      ∃ t, PSs (cxOf CX0 P w K mg base N q (defScope st) f cdv A outer s H E).nox (defBody st) t ∧ t { nx := fun _ H' => Q .non H', rt := Q } (start N vs) H) : Cd P w K mg base (k + 1) x sp := by
  obtain ⟨f, fd, F, b, hm⟩ := Z.ex
  exact ⟨⟨f, fd, ps, F.ok S len (hbody f), hm, F.kp, b⟩⟩
theorem mkStA {K : PySem.W.Frag} {mg : Str → Option Value} {x q : Str} {st : Stmt} {ps : List Str} {h : Heap} {f : Addr} {oc : Value} {od an : Option Addr} {osl : Array (Option Value)} {kV doc pm cdv ct : Value} (X : K.In h) (G : h.Ns mainGlobals mg)
    (a : PySem.W.nsIn K mainGlobals x = some (some (.ref f))) (l : K.lookup f = some ⟨oc, od, .func (PySem.W.fnOf q q (defArgs st) (defBody st) (defScope st) .none kV doc pm an cdv ct), osl⟩) (c : PySem.W.codeIn K cdv q = true) (k : PySem.W.keepIn K (.ref f) = true)
    (hb : ∀ (kV doc pm : Value) (an : Option Addr) (cdv ct : Value) (us : List Value), us.length = ps.length → bindArgs (PySem.W.fnOf q q (defArgs st) (defBody st) (defScope st) .none kV doc pm an cdv ct) ⟨us, []⟩ = pure (ps.zip us)) : StA K mg x q st ps :=
  ⟨f, _, fun_mk (st := st) l c k, (fun_mk (st := st) l c k).binds hb, PySem.W.mg_of X G a⟩
/-! backward readings -/
def kFld (K : PySem.W.Frag) (f : Str) (Q : VK) : VK := fun x H1 => ∃ a C dx fs v, x = .ref a ∧ H1 a = some (.ins C dx fs) ∧ Cls K C ∧ NoAttr K C f ∧ fs.lookup f = some v ∧ Q v H1
def kFldS (K : PySem.W.Frag) (f : Str) (D : Ends) (σ : L2.St) (y : V) : VK := fun x H2 => ∃ a C dx fs, x = .ref a ∧ H2 a = some (.ins C dx fs) ∧ Cls K C ∧ NoAttr K C f ∧ fs.length < 1000 ∧ D.nx σ (upd H2 a (.ins C dx (putF f y fs)))
def kMd (C : Addr) (m : Str) (t : TA) (σ : L2.St) (k : V → List V → Hp → Prop) : VK := fun x H1 => ∃ a dx fs, x = .ref a ∧ H1 a = some (.ins C dx fs) ∧ fs.lookup m = none ∧ t σ H1 fun vs H2 => k x vs H2
section
variable {K : PySem.W.Frag} {σ : L2.St} {H : Hp} {Q : VK} {D : Ends} {ta tv : TE} {t : TA} {f m : Str} {C a dx : Addr} {fs : List (Str × V)} {F : List Str} {v y : V} {sp : Sp}
theorem w_fld (q : ta σ H (kFld K f Q)) : tFld K ta f σ H Q := q
theorem w_kFld (T : Ob K C F) (h : H a = some (.ins C dx fs)) (hf : f ∈ F) (l : fs.lookup f = some v) (q : Q v H) : kFld K f Q (.ref a) H := ⟨a, C, dx, fs, v, rfl, h, T.cl, T.na f hf, l, q⟩
theorem w_fldS (q : tv σ H fun y H1 => ta σ H1 (kFldS K f D σ y)) : sFld K ta tv f D σ H := q
theorem w_kFldS {fs' : List (Str × V)} (T : Ob K C F) (h : H a = some (.ins C dx fs)) (hf : f ∈ F) (hl : fs.length < 1000) (e : putF f y fs = fs') (q : ∀ H', H' a = some (.ins C dx fs') → But a H H' → D.nx σ H') : kFldS K f D σ y (.ref a) H :=
  ⟨a, C, dx, fs, rfl, h, T.cl, T.na f hf, hl, q _ (by rw [e]; exact upd_same) But.set⟩
theorem w_md (q : ta σ H (kMd C m t σ fun x vs H2 => sp (x :: vs) H2 Q E0)) : tMd C m sp ta t σ H Q := q
theorem w_kMd {k : V → List V → Hp → Prop} (h : H a = some (.ins C dx fs)) (l : fs.lookup m = none) (q : t σ H fun vs H2 => k (.ref a) vs H2) : kMd C m t σ k (.ref a) H := ⟨a, dx, fs, rfl, h, l, q⟩
def kMkr (C : Addr) (sp : Sp) (Q : VK) : List V → Hp → Prop := fun vs H1 => ∀ x dx, H1 x = none → H1 dx = none → dx ≠ x → sp (.ref x :: vs) (upd (upd H1 dx (.own x)) x (.ins C dx [])) (fun v H2 => v = .non ∧ Q (.ref x) H2) E0
theorem w_mkr (q : t σ H (kMkr C sp Q)) : tMkr C sp t σ H Q := q
def kFldA (K : PySem.W.Frag) (f : Str) (tv : TE) (rd : V → V → Hp → VK → Prop) (D : Ends) (σ : L2.St) : VK := fun x H1 => ∃ a C dx fs v, x = .ref a ∧ H1 a = some (.ins C dx fs) ∧ Cls K C ∧ NoAttr K C f ∧ fs.lookup f = some v ∧
  tv σ H1 fun y H2 => rd v y H2 fun z H3 => ∃ dx' fs', H3 a = some (.ins C dx' fs') ∧ fs'.length < 1000 ∧ D.nx σ (upd H3 a (.ins C dx' (putF f z fs')))
theorem w_fldA {rd : V → V → Hp → VK → Prop} (q : ta σ H (kFldA K f tv rd D σ)) : sFldAug K ta tv rd f D σ H := q
end
end Co

set_option Elab.async false
set_option linter.all false
set_option maxRecDepth 100000
set_option maxHeartbeats 4000000
namespace Co
open PySem PySem.Spec PyProof.Rows GenW L2
/-! ### a for loop in a generator -/
section
variable {M : Model} {A : Around} {R : GenEnd} {Y : Protocol} {n : Nat} {s₀ s : Shared} {c : Code} {fs : List Frame} {env : Env} {K : Flow → Sem PySem.Fin} {H : Value → Sem PySem.Fin} {gd : Bool → Bool} {lv : List Value → List Value}
theorem seg_holding {α : Type} {vs : List Value} {m : Sem α} {K : α → Sem PySem.Fin}
    (h : wpAny M (A.over c fs) m (fun a s' => Seg M A R Y n s₀ c (K a) fs s') (fun x s' => Seg M A R Y n s₀ c (H x) fs s') s) :
    Seg M A R Y n s₀ c ((holding vs m).wrap K H gd lv) fs s := seg_wrap (wpAny_holding h)
theorem seg_ForG {tg iter : Expr} {body orelse : List Stmt} {pos : Pos}
    (h : wpAny M (A.over c fs) (eval iter env) (fun x s1 => wpAny M (A.over c fs) (pyIter x) (fun it s2 => ∀ p, Seg M A R Y n s₀ (.forLoop tg it body orelse env) (M.den (.forLoop tg it body orelse env))
      (.ret (fun r => ((match r with | .ok f => (.pure f : Sem Flow) | .error e => .raise e).onRaise (cameBack env)).wrap K H gd lv) none (gd false) (lv []) c p [] :: fs) s2)
      (fun x s' => Seg M A R Y n s₀ c (H x) fs s') s1) (fun x s' => Seg M A R Y n s₀ c (H x) fs s') s)
    (hs : ∀ x, foldedSetIterable iter env x = pure x) : Seg M A R Y n s₀ c ((exec (.For tg iter body orelse pos) env).wrap K H gd lv) fs s := by
  rw [exec_For]
  refine seg_bind_wrap (wpAny_standAt ?_)
  refine seg_bind_wrap (wpAny_mono h (fun x s1 h1 => ?_) fun x s' hx => hx)
  refine seg_bind_wrap (wpAny_of_eq (hs x) ?_)
  refine seg_bind_wrap (wpAny_standAt ?_)
  refine seg_bind_wrap (wpAny_holding (wpAny_mono h1 (fun it s2 h2 => ?_) fun x s' hx => hx))
  exact seg_call h2
/-- what an exception does that leaves the turn -/
abbrev outE (env : Env) : Value → Sem PySem.Fin := fun e => (do noteFrame e env; theTreesLotGoes e : Sem Unit).wrap (fun _ => .raise e) .raise id id
end
section
variable {prog : Program} {w : World} {A : Around} {R : GenEnd} {Y : Protocol} {n : Nat} {s₀ : Shared} {fs : List Frame} {s : Shared} {env : Env}
theorem seg_forLoopG {tg : Expr} {it : Value} {body orelse : List Stmt}
    (h : wpAny (model prog w) (A.over (.forLoop tg it body orelse env) fs) (pyNext it) (fun r s1 => match r with
        | none => Seg (model prog w) A R Y n s₀ (.forLoop tg it body orelse env) (.pure (.again (.block orelse env))) fs s1
        | some v => wpAny (model prog w) (A.over (.forLoop tg it body orelse env) fs) (letOwnedTupleGo tg it v) (fun _ s2 => wpAny (model prog w) (A.over (.forLoop tg it body orelse env) fs) (assign tg env v) (fun _ s3 =>
            Seg (model prog w) A R Y n s₀ (.forLoop tg it body orelse env) ((execs body env).wrap (fun f => match f with
              | .next | .cont => .pure (.again (.forLoop tg it body orelse env))
              | .brk => .pure (.done .next)
              | .ret v => .pure (.done (.ret v))) (outE env) id id) fs s3)
            (fun x s' => Seg (model prog w) A R Y n s₀ (.forLoop tg it body orelse env) (outE env x) fs s') s2)
            (fun x s' => Seg (model prog w) A R Y n s₀ (.forLoop tg it body orelse env) (outE env x) fs s') s1)
      (fun x s' => Seg (model prog w) A R Y n s₀ (.forLoop tg it body orelse env) (outE env x) fs s') s) :
    Seg (model prog w) A R Y n s₀ (.forLoop tg it body orelse env) ((model prog w).den (.forLoop tg it body orelse env)) fs s := by
  show Seg _ A R Y n s₀ _ ((forTurn tg it body orelse env).onRaise (fun x => do noteFrame x env; theTreesLotGoes x)) fs s
  have eo : ∀ x : Value, ((do noteFrame x env; theTreesLotGoes x : Sem Unit).bind fun _ => (Sem.raise x : Sem PySem.Fin)) = outE env x := fun x => Sem.bind_eq_wrap _ _
  rw [Sem.onRaise_eq_wrap]
  unfold forTurn
  refine seg_bind_wrap (wpAny_standAt ?_)
  refine seg_bind_wrap (wpAny_onRaise (wpAny_mono h (fun r s1 h1 => ?_) fun x s' hx => wpAny_standAt ?_))
  · cases r with
    | none =>
      exact h1
    | some v =>
      refine seg_bind_wrap (wpAny_mono h1 (fun _ s2 h2 => ?_) fun x s' hx => ?_)
      · refine seg_bind_wrap (wpAny_mono h2 (fun _ s3 h3 => ?_) fun x s' hx => ?_)
        · rw [Sem.bind_eq_wrap', Sem.wrap_wrap]
          rw [Sem.wrap_congr (execs body env) _ _ (K' := fun f => match f with
            | .next | .cont => .pure (.again (.forLoop tg it body orelse env))
            | .brk => .pure (.done .next)
            | .ret v => .pure (.done (.ret v))) (H' := outE env)
            (fun f => by cases f <;> rfl)
            (fun e => by first | exact eo e | (show ((do noteFrame e env; theTreesLotGoes e : Sem Unit).bind fun _ => (Sem.raise e : Sem PySem.Fin)) = _; exact eo e))]
          exact h3
        · rw [← eo] at hx; exact hx
      · rw [← eo] at hx; exact hx
  · rw [← eo] at hx; exact hx
/-- the end of the loop: its else, which is empty -/
theorem seg_blockNil {tgE : List Stmt} (he : tgE = []) {c : Code} (h : Seg (model prog w) A R Y n s₀ (.block [] env) (leafOf (.ok .next)) fs s) : Seg (model prog w) A R Y n s₀ c (.pure (.again (.block tgE env))) fs s := by
  subst he
  refine seg_again rfl ?_
  exact h
end
/-- W: the invariant by the turn, a measure, and what is out -/
def tGFor (wi : TI) (g : TG) (tb : TGn) : TGn := fun D ys σ H => wi σ H fun J H1 => ∃ W : Nat → Nat → List V → L2.St → Hp → Prop, (∃ m, W 0 m ys σ H1) ∧ ∀ i m ys σ H, W i m ys σ H →
  (J.stop i H ∧ D.nx ys σ H) ∨ (J.go i H ∧ ∃ N : List V → L2.St → Hp → Prop, (∀ ys' σ' H', N ys' σ' H' → ∃ m', m' < m ∧ W (i + 1) m' ys' σ' H') ∧ ∀ x H', J.yld i H x H' → g x σ H' fun σ2 H2 => tb { D with nx := N, ct := N, bk := D.nx } ys σ2 H2)
theorem gs_for {X : Cx} {tg iter : Expr} {body : List Stmt} {wi : TI} {g : TG} {tb : TGn} {pos : Pos} (hp : PassesOwn (model X.prog X.w) X.A X.env X.xe) (hc : X.calm = true) (hi : PI X tg iter wi) (hg : PG X tg g) (hb : GSs X body tb)
    (hs : ∀ x, foldedSetIterable iter X.env x = pure x := by intro _; rfl) : GS X (.For tg iter body [] pos) (tGFor wi g tb) := by
  refine ⟨fun A S ip R n ys s₀ c fs K J gd lv s σ H D gc hn k hI ht => ?_⟩
  refine seg_ForG ?_ hs
  rw [gc.over]
  obtain ⟨acc, cc, r, I⟩ := hI
  refine wpAny_mono (hi.run _ s σ H _ I ht) (fun v s1 h1 => wpAny_mono h1 (fun itv s2 h2 p => ?_) fun x s' hx => k.exc n s₀ x s' hx) fun x s' hx => k.exc n s₀ x s' hx
  obtain ⟨it, fp, tn, J', H2, e, I2, T, st2, f2, W, ⟨m0, w0⟩, turn⟩ := h2
  subst e
  have gl := fun (kk : Result → Sem PySem.Fin) => gc_loop (k := kk) (c' := .forLoop tg (.ref it) body [] X.env) (l := lv []) (kp := []) (p := p) gc rfl rfl
  have stat : ∀ {acc' : Array Value} {c' : Nat} {H' : Hp}, (∀ b ∈ fp, H' b = none) → ∀ b ∈ fp, FpOk X ((S, lstObj acc' c') :: ip) H' b := fun {acc' c' H'} hn b hb => by
    obtain ⟨_, g1, g2, g3, g4, g5⟩ := f2 b hb
    refine ⟨hn b hb, g1, g2, g3, g4, fun q hq => ?_⟩
    rcases List.mem_append.mp hq with hq | hq
    · exact g5 q (List.mem_append_left _ hq)
    · rcases List.mem_cons.mp hq with rfl | hq
      · exact g5 (S, lstObj acc cc) (List.mem_append_right _ List.mem_cons_self)
      · exact g5 q (List.mem_append_right _ (List.mem_cons_of_mem _ hq))
  have nS : ∀ b ∈ fp, b ≠ S := fun b hb => ((f2 b hb).2.2.2.2.2 (S, lstObj acc cc) (List.mem_append_right _ List.mem_cons_self)).symm
  have loop : ∀ (m i n : Nat) (ys : List V) (s₀ s : Shared) (σ : L2.St) (H : Hp), n + ys.length = sizeLine → W i m ys σ H → GI X S ip ys σ H s → tn i s.heap → (∀ b ∈ fp, H b = none) →
      Seg (model X.prog X.w) A R (GY X S) n s₀ (.forLoop tg (.ref it) body [] X.env) ((model X.prog X.w).den (.forLoop tg (.ref it) body [] X.env))
        (.ret (fun r => ((match r with | .ok f => (.pure f : Sem Flow) | .error e => .raise e).onRaise (cameBack X.env)).wrap K J gd lv) none (gd false) (lv []) c p [] :: fs) s := by
    intro m
    induction m using Nat.strongRecOn with
    | ind m ih =>
      intro i n ys s₀ s σ H hn w hI st fr
      have ee : ∀ (n : Nat) (s₀ : Shared) (x : Value) (s' : Shared), X.xe x s' → Seg (model X.prog X.w) A R (GY X S) n s₀ (.forLoop tg (.ref it) body [] X.env) (outE X.env x)
          (.ret (fun r => ((match r with | .ok f => (.pure f : Sem Flow) | .error e => .raise e).onRaise (cameBack X.env)).wrap K J gd lv) none (gd false) (lv []) c p [] :: fs) s' := fun n s₀ x s' hx => by
        refine seg_wrap ?_
        rw [(gl _).over]
        refine wpAny_bind (wpAny_mono (hp x s' hx) (fun _ s'' hcb => wpAny_theTreesLotGoes ?_) fun y s'' hcb => ?_)
        · exact seg_leaf (.error x) (seg_cameBack gc k hcb)
        · exact seg_leaf (.error y) (seg_cameBack gc k hcb)
      refine seg_forLoopG ?_
      rw [(gl _).over]
      obtain ⟨acc, cc, r, I⟩ := hI
      rcases turn i m ys σ H w with ⟨stop, qn⟩ | ⟨go, N, hN, step⟩
      · refine wpAny_mono (T.done X rfl rfl rfl hc i _ s σ H X.xe I (stat fr) st stop) (fun r' s4 h4 => ?_) fun x s' hx => ee n s₀ x s' hx
        obtain ⟨hr, I4⟩ := h4
        subst hr
        exact seg_blockNil rfl (seg_leaf (.ok .next) (k.ok n ys s₀ s4 .next hn ⟨σ, H, ⟨acc, cc, r, I4⟩, qn⟩))
      · refine wpAny_mono (T.item X rfl rfl rfl hc i _ s σ H X.xe I (stat fr) st go) (fun r' s4 h4 => ?_) fun x s' hx => ee n s₀ x s' hx
        obtain ⟨u, hr, h4⟩ := h4
        subst hr
        refine wpAny_mono h4 (fun _ s5 h5 => ?_) fun x s' hx => ee n s₀ x s' hx
        obtain ⟨x, H5, I5, r5, y5, st5, fr5⟩ := h5
        have I5' := I5.pinned (stat fr5) (T.obj _ _ st5)
        refine wpAny_mono (hg.run _ s5 σ H5 x u _ I5' r5 (step x H5 y5)) (fun _ s6 h6 => ?_) fun x s' hx => ee n s₀ x s' hx
        obtain ⟨σ6, H6, I6, q6⟩ := h6
        have gb : GC X S (ip ++ pinsAt fp s5.heap) A (.forLoop tg (.ref it) body [] X.env) (.ret (fun r => ((match r with | .ok f => (.pure f : Sem Flow) | .error e => .raise e).onRaise (cameBack X.env)).wrap K J gd lv) none (gd false) (lv []) c p [] :: fs) id :=
          { gl _ with ip := fun q hq => (by
              rcases List.mem_append.mp hq with hq | hq
              · exact gc.ip q hq
              · exact nS _ (of_pinsAt hq).1) }
        have unp : ∀ {ys' : List V} {σ' : L2.St} {H' : Hp} {s' : Shared}, GI X S (ip ++ pinsAt fp s5.heap) ys' σ' H' s' → GI X S ip ys' σ' H' s' ∧ tn (i + 1) s'.heap ∧ ∀ b ∈ fp, H' b = none := fun {ys' σ' H' s'} h => by
          obtain ⟨a', c', r', I'⟩ := h
          have I2' : Inv X (((S, lstObj a' c') :: ip) ++ pinsAt fp s5.heap) σ' H' s' := I'
          refine ⟨⟨a', c', r', I2'.unpinned⟩, T.keep _ _ _ st5 fun b hb o e => (I2'.pin (b, o) (List.mem_append_right _ (List.mem_append_right _ (mem_pinsAt hb e)))).1, fun b hb => ?_⟩
          obtain ⟨o, e, d⟩ := T.obj _ _ st5 b hb
          exact (I2'.pin (b, o) (List.mem_append_right _ (List.mem_append_right _ (mem_pinsAt hb e)))).2.1
        refine hb.run A S (ip ++ pinsAt fp s5.heap) R n ys s₀ _ _ _ _ id id s6 σ6 H6 { D with nx := N, ct := N, bk := D.nx } gb hn ⟨fun n' ys' s₀' s7 f hn' hs => ?_, fun n' s₀' x s7 hx => ee n' s₀' x s7 hx⟩ ⟨acc, cc, r, I6⟩ q6
        cases f with
        | next =>
          obtain ⟨σ7, H7, I7, n7⟩ := hs
          obtain ⟨m', hm, w7⟩ := hN ys' σ7 H7 n7
          obtain ⟨g7, t7, f7⟩ := unp I7
          exact seg_again rfl (ih m' hm (i + 1) n' ys' s₀' s7 σ7 H7 hn' w7 g7 t7 f7)
        | cont =>
          obtain ⟨σ7, H7, I7, n7⟩ := hs
          obtain ⟨m', hm, w7⟩ := hN ys' σ7 H7 n7
          obtain ⟨g7, t7, f7⟩ := unp I7
          exact seg_again rfl (ih m' hm (i + 1) n' ys' s₀' s7 σ7 H7 hn' w7 g7 t7 f7)
        | brk =>
          obtain ⟨σ7, H7, I7, n7⟩ := hs
          exact seg_leaf (.ok .next) (k.ok n' ys' s₀' s7 .next hn' ⟨σ7, H7, (unp I7).1, n7⟩)
        | ret v =>
          obtain ⟨v7, σ7, H7, I7, r7, n7⟩ := hs
          exact seg_leaf (.ok (.ret v)) (k.ok n' ys' s₀' s7 (.ret v) hn' ⟨v7, σ7, H7, (unp I7).1, r7, n7⟩)
  exact loop m0 0 n ys s₀ s2 σ H2 hn w0 ⟨acc, cc, r, I2⟩ st2 fun b hb => (f2 b hb).1
end Co

set_option Elab.async false
set_option linter.all false
set_option maxRecDepth 100000
set_option maxHeartbeats 4000000
namespace Co
open PySem PySem.Spec PyProof.Rows GenW L2
/-! ### calls by name, of defs and of generator defs -/
abbrev kvE (ks : List Str) : Prop := True
structure CdK (P : Program) (w : World) (K : PySem.W.Frag) (mg : Str → Option Value) (base : Heap) (k : Nat) (x : Str) (n : Nat) (ks : List Str) (sp : Sp) : Prop where
  ex : ∃ (f : Addr) (fd : FuncData) (ps : List Str), FnOk P w K mg base CX0 k f fd ps sp ∧ mg x = some (.ref f) ∧ PySem.W.keepIn K (.ref f) = true ∧ KBn K fd ps n ks (fun us ws => us ++ ws) (fun vs zs => vs ++ zs)
structure GCdK (P : Program) (w : World) (K : PySem.W.Frag) (mg : Str → Option Value) (base : Heap) (k : Nat) (x : Str) (n : Nat) (ks : List Str) (sp : SpG) : Prop where
  ex : ∃ (f : Addr) (fd : FuncData) (ps : List Str), GFn P w K mg base k f fd ps sp ∧ mg x = some (.ref f) ∧ PySem.W.keepIn K (.ref f) = true ∧ KBn K fd ps n ks (fun us ws => us ++ ws) (fun vs zs => vs ++ zs)
def tCK (n m : Nat) (sp : Sp) (t tk : TA) : TE := fun σ H Q => t σ H fun vs H1 => tk σ H1 fun zs H2 => vs.length = n ∧ zs.length = m ∧ sp (vs ++ zs) H2 Q E0
def tGK (n m : Nat) (sp : SpG) (t tk : TA) : TGen := fun σ H cont => t σ H fun vs H1 => tk σ H1 fun zs H2 => vs.length = n ∧ zs.length = m ∧ sp (vs ++ zs) H2 cont E0
section
variable {X : Cx} {k j n : Nat} {x : Str} {ks : List Str} {p pos : Pos} {e : Expr} {es : List Expr} {kws : List Keyword} {t tk : TA}
theorem pe_cdK {sp : Sp} (c : CdK X.prog X.w X.K X.mg X.base k x n ks sp) (hr : Room j X.A) (hk : k ≤ j) (hg : Gl X x) (ha : PA X (e :: es) t) (hkw : PK X kws tk)
    (hall : (backToKw pos (keywordEach kws X.env)).all (·.1.isSome) = true := by rfl) (hks : (backToKw pos (keywordEach kws X.env)).filterMap (·.1) = ks := by rfl)
    (hdb : (x == ("__debug__" : Str)) = false := by decide) (he : starEach (e :: es) X.env = (false, eval e X.env) :: starEach es X.env := by rfl)
    (hpl : ((backTo pos (starEach (e :: es) X.env)).any (·.1) || (backToKw pos (keywordEach kws X.env)).any (·.1.isNone)) = false := by rfl) :
    PE X (.Call (.Name x p) (e :: es) kws pos) (tCK n ks.length sp t tk) := by
  obtain ⟨f, fd, ps, F, hm, kp, b⟩ := c.ex
  exact pe_callN (E := E0) F (hr.mono hk) hg hm kp b pass0 ha hkw hall hks hdb he hpl
theorem run_gfnK {f : Addr} {fd : FuncData} {ps : List Str} {sp : SpG} {pins : List (Addr × Obj)} {σ : L2.St} {H : Hp} {s : Shared} {us ws : List Value} {vs zs : List V} {cont : List V → Hp → Prop} {E : XK} {E1 : Value → Shared → Prop} (F : GFn X.prog X.w X.K X.mg X.base k f fd ps sp) (hr : Room k X.A)
    (hb : KBn X.K fd ps n ks (fun us ws => us ++ ws) (fun vs zs => vs ++ zs)) (I : Inv X pins σ H s) (r : Vals vs us) (rz : Vals zs ws) (l1 : vs.length = n) (l2 : zs.length = ks.length) (h : sp (vs ++ zs) H cont E) :
    wpAny (model X.prog X.w) X.A (call (.ref f) us (ks.zip ws)) (fun u s' => ∃ H1 sc ex, Inv X pins σ H1 sc ∧ ExOk X pins ex ∧ GMade X.prog X.w k X.stack H1 sc ex cont E u s') E1 s := by
  refine wpAny_call (codeAny_mono (F.run X.A X.stack s H ⟨us, ks.zip ws⟩ (us ++ ws) (vs ++ zs) cont E hr I.env0 (hb.to s us ws I.kIn (r.length.symm.trans l1) (rz.length.symm.trans l2)) (hb.rel r rz) h) fun r s' hq => ?_)
  cases r with
  | error e => exact False.elim hq
  | ok fl =>
    cases fl with
    | ret u => exact ⟨H, s, [], I, .nil, hq⟩
    | next => exact False.elim hq
    | brk => exact False.elim hq
    | cont => exact False.elim hq
theorem pgen_cdK {sp : SpG} (c : GCdK X.prog X.w X.K X.mg X.base k x n ks sp) (hr : Room k X.A) (hg : Gl X x) (ha : PA X (e :: es) t) (hkw : PK X kws tk)
    (hall : (backToKw pos (keywordEach kws X.env)).all (·.1.isSome) = true := by rfl) (hks : (backToKw pos (keywordEach kws X.env)).filterMap (·.1) = ks := by rfl)
    (hdb : (x == ("__debug__" : Str)) = false := by decide) (he : starEach (e :: es) X.env = (false, eval e X.env) :: starEach es X.env := by rfl)
    (hpl : ((backTo pos (starEach (e :: es) X.env)).any (·.1) || (backToKw pos (keywordEach kws X.env)).any (·.1.isNone)) = false := by rfl) :
    PGen X k (.Call (.Name x p) (e :: es) kws pos) (tGK n ks.length sp t tk) E0 := by
  obtain ⟨f, fd, ps, F, hm, kp, b⟩ := c.ex
  refine ⟨fun pins s σ H cont I h => ?_⟩
  refine wpAny_Call_Name_kw (ld_glob I hg hm ?_ hdb)
  refine PySem.W.callWith_KW (h₀ := X.base) I.ok.mod.kin kp hall (thn (ha.run pos pins s σ H _ I h) fun us s1 ⟨vs, H1, I1, r, q⟩ => ?_) hpl he
  refine thn (hkw.run pos pins s1 σ H1 _ I1 q) fun ws s2 ⟨zs, H2, I2, rz, l1, l2, q2⟩ => ⟨I2.kIn, ?_⟩
  rw [hks]
  exact run_gfnK F hr b I2 r rz l1 l2 q2
theorem passE0 : Passes (CX X.prog X.w) X E0 := fun pins σ H s e s' I h => by
  obtain ⟨a, B, H', cls, d, _, _, _, _, _, _, _, w⟩ := h
  exact w.elim
theorem noStopE0 {K : PySem.W.Frag} : NoStop K E0 := fun cls d H h => h.elim
end
/-- a def with keyword-only parameters that stands -/
structure StK (K : PySem.W.Frag) (mg : Str → Option Value) (x : Str) (st : Stmt) (ps : List Str) (n : Nat) (ks : List Str) : Prop where
  ex : ∃ f fd, Fun K x x st f fd ∧ KBn K fd ps n ks (fun us ws => us ++ ws) (fun vs zs => vs ++ zs) ∧ mg x = some (.ref f)
theorem StK.cd {P : Program} {w : World} {K : PySem.W.Frag} {mg : Str → Option Value} {base : Heap} {x : Str} {st : Stmt} {k n : Nat} {ks N ps : List Str} {sp : Sp} (Z : StK K mg x st ps n ks) (S : FnScope N ps (defScope st)) (len : ∀ vs H Q E, sp vs H Q E → vs.length = ps.length)
    (hbody : ∀ (f : Addr) (cdv : Value) (A : Around) (outer : List Env) (s : Shared) (H : Hp) (vs : List V) (Q : VK) (E : XK), Room k (A.deeper (envOfC x (defScope st) s.heap.objs.size f cdv)) → sp vs H Q E →
      ∃ t, PSs (cxOf CX0 P w K mg base N x (defScope st) f cdv A outer s H E).nox (defBody st) t ∧ t { nx := fun _ H' => Q .non H', rt := Q } (start N vs) H) : CdK P w K mg base (k + 1) x n ks sp := by
  obtain ⟨f, fd, F, b, hm⟩ := Z.ex
  exact ⟨⟨f, fd, ps, F.ok S len (hbody f), hm, F.kp, b⟩⟩
theorem StK.gcd {P : Program} {w : World} {K : PySem.W.Frag} {mg : Str → Option Value} {base : Heap} {x : Str} {st : Stmt} {k n : Nat} {ks N ps : List Str} {sp : SpG} (Z : StK K mg x st ps n ks) (S : GScope N ps (defScope st)) (len : ∀ vs H Q E, sp vs H Q E → vs.length = ps.length)
    (hbody : ∀ (f : Addr) (cdv : Value) (A : Around) (outer : List Env) (s : Shared) (H : Hp) (vs : List V) (Q : List V → Hp → Prop) (E : XK) (pn : List (Addr × Obj)), Room k (A.deeper (envOfC x (defScope st) s.heap.objs.size f cdv)) → sp vs H Q E →
      ∃ t, GSs (gcxOf P w K mg base N x (defScope st) f cdv A outer s H E pn) (defBody st) t ∧ t { nx := fun ys _ H' => Q ys H', rt := fun ys v H' => v = .non ∧ Q ys H' } [] (start N vs) H) : GCdK P w K mg base (k + 1) x n ks sp := by
  obtain ⟨f, fd, F, b, hm⟩ := Z.ex
  obtain ⟨oc, od, kV, doc, pm, an, cdv, ct, osl, rfl, lk, hcd⟩ := F.ex
  exact ⟨⟨f, _, ps, gfn_of lk hcd S len (hbody f cdv), hm, F.kp, b⟩⟩
theorem mkStK {K : PySem.W.Frag} {mg : Str → Option Value} {x : Str} {st : Stmt} {ps ks : List Str} {n : Nat} {h : Heap} {f : Addr} {oc : Value} {od an : Option Addr} {osl : Array (Option Value)} {kV doc pm cdv ct : Value} (X : K.In h) (G : h.Ns mainGlobals mg)
    (a : PySem.W.nsIn K mainGlobals x = some (some (.ref f))) (l : K.lookup f = some ⟨oc, od, .func (PySem.W.fnOf x x (defArgs st) (defBody st) (defScope st) .none kV doc pm an cdv ct), osl⟩) (c : PySem.W.codeIn K cdv x = true) (k : PySem.W.keepIn K (.ref f) = true)
    (hb : ∀ (kV doc pm : Value) (an : Option Addr) (cdv ct : Value) (us ws : List Value), us.length = n → ws.length = ks.length → bindArgs (PySem.W.fnOf x x (defArgs st) (defBody st) (defScope st) .none kV doc pm an cdv ct) ⟨us, ks.zip ws⟩ = pure (ps.zip (us ++ ws))) : StK K mg x st ps n ks :=
  ⟨f, _, fun_mk (st := st) l c k, ⟨fun s us ws _ h1 h2 => .of_eq (hb kV doc pm an cdv ct us ws h1 h2), fun r rz => r.append rz⟩, PySem.W.mg_of X G a⟩
/-! readings -/
theorem w_cK {n m : Nat} {sp : Sp} {t tk : TA} {σ : L2.St} {H : Hp} {Q : VK} (q : t σ H fun vs H1 => tk σ H1 fun zs H2 => vs.length = n ∧ zs.length = m ∧ sp (vs ++ zs) H2 Q E0) : tCK n m sp t tk σ H Q := q
theorem w_gK {n m : Nat} {sp : SpG} {t tk : TA} {σ : L2.St} {H : Hp} {Q : List V → Hp → Prop} (q : t σ H fun vs H1 => tk σ H1 fun zs H2 => vs.length = n ∧ zs.length = m ∧ sp (vs ++ zs) H2 Q E0) : tGK n m sp t tk σ H Q := q
theorem w_listG {tg : TGen} {σ : L2.St} {H : Hp} {Q : VK} (q : tg σ H fun out H2 => ∀ p, H2 p = none → Q (.ref p) (upd H2 p (.lst out))) : tListG tg σ H Q := q
section
variable {D : GEnds} {ys : List V} {σ : L2.St} {H : Hp} {t u : TGn} {tp : TS} {te : TE}
theorem w_gThen (q : t { D with nx := fun ys' σ' H' => u D ys' σ' H' } ys σ H) : tGThen t u D ys σ H := q
theorem w_gPlain (q : tp { nx := D.nx ys, rt := D.rt ys, bk := D.bk ys, ct := D.ct ys } σ H) : tPlain tp D ys σ H := q
theorem w_g0 (q : D.nx ys σ H) : tG0 D ys σ H := q
theorem w_gYield (h : ys.length < sizeLine) (q : te σ H fun x H1 => D.nx (ys ++ [x]) σ H1) : tGYield te D ys σ H := ⟨h, q⟩
end
end Co
namespace Co
open PySem PySem.Spec PyProof.Rows GenW L2
section
variable {wi : TI} {g : TG} {tb : TGn} {D : GEnds} {ys : List V} {σ : L2.St} {H : Hp}
def kForG (g : TG) (tb : TGn) (D : GEnds) (ys : List V) (σ : L2.St) : It → Hp → Prop := fun J H1 => ∃ W : Nat → Nat → List V → L2.St → Hp → Prop, (∃ m, W 0 m ys σ H1) ∧ ∀ i m ys σ H, W i m ys σ H →
  (J.stop i H ∧ D.nx ys σ H) ∨ (J.go i H ∧ ∃ N : List V → L2.St → Hp → Prop, (∀ ys' σ' H', N ys' σ' H' → ∃ m', m' < m ∧ W (i + 1) m' ys' σ' H') ∧ ∀ x H', J.yld i H x H' → g x σ H' fun σ2 H2 => tb { D with nx := N, ct := N, bk := D.nx } ys σ2 H2)
theorem w_forG (q : wi σ H (kForG g tb D ys σ)) : tGFor wi g tb D ys σ H := q
theorem w_forGR {j : Int} (n : Nat) (Pv : Nat → List V → L2.St → Hp → Prop) (hn : j.toNat = n) (hj : n < 4611686018427387904 ∧ -4611686018427387904 ≤ j) (h0 : Pv 0 ys σ H)
    (hs : ∀ i ys σ H, i < n → Pv i ys σ H → g (.int (i : Int)) σ H fun σ2 H2 => tb { D with nx := Pv (i + 1), ct := Pv (i + 1), bk := D.nx } ys σ2 H2) (hd : ∀ ys σ H, Pv n ys σ H → D.nx ys σ H) : kR1 (kForG g tb D ys σ) [.int j] H := by
  refine ⟨j, rfl, by show -4611686018427387904 ≤ j; omega, by show j < 4611686018427387904; omega, ?_⟩
  subst hn
  refine ⟨fun i m ys σ H => m = j.toNat - i ∧ i ≤ j.toNat ∧ Pv i ys σ H, ⟨j.toNat, by simp, Nat.zero_le _, h0⟩, ?_⟩
  rintro i m ys σ H ⟨rfl, hi, p⟩
  by_cases hlt : i < j.toNat
  · refine .inr ⟨hlt, Pv (i + 1), fun ys' σ' H' p' => ⟨j.toNat - (i + 1), by omega, rfl, hlt, p'⟩, fun x H' y => ?_⟩
    obtain ⟨e, y⟩ := y
    subst e y
    rw [Int.zero_add]
    exact hs i ys σ _ hlt p
  · have e : i = j.toNat := by omega
    subst e
    exact .inl ⟨Nat.le_refl _, hd ys σ H p⟩
end
end Co

set_option Elab.async false
set_option linter.all false
set_option maxRecDepth 100000
set_option maxHeartbeats 4000000
namespace Co
open PySem PySem.Spec PyProof.Rows L2
/-! ### words as eight hexadecimal signs -/
/-- the code of a hexadecimal sign -/
def hxd (n : Nat) : Nat := (Nat.digitChar (n % 16)).toNat
/-- the last k hexadecimal signs of a number -/
def hxs : Nat → Nat → List Nat
  | 0, _ => []
  | k + 1, n => hxd (n / 16 ^ k) :: hxs k n
theorem hxs_len (n : Nat) : ∀ k, (hxs k n).length = k
  | 0 => rfl
  | k + 1 => by show (hxs k n).length + 1 = _; rw [hxs_len n k]
theorem hxs_back : ∀ k n, hxs (k + 1) n = hxs k (n / 16) ++ [hxd n]
  | 0, n => by simp [hxs]
  | k + 1, n => by
    rw [show hxs (k + 1 + 1) n = hxd (n / 16 ^ (k + 1)) :: hxs (k + 1) n from rfl, hxs_back k n, show hxs (k + 1) (n / 16) = hxd (n / 16 / 16 ^ k) :: hxs k (n / 16) from rfl, Nat.div_div_eq_div_mul, Nat.pow_succ, Nat.mul_comm (16 ^ k) 16]
    rfl
theorem hxs_zero : ∀ k, hxs k 0 = List.replicate k 48
  | 0 => rfl
  | k + 1 => by rw [show hxs (k + 1) 0 = hxd (0 / 16 ^ k) :: hxs k 0 from rfl, hxs_zero k, Nat.zero_div, List.replicate_succ]; rfl
theorem hxs_digits : ∀ k n, n < 16 ^ k → 1 ≤ k → (Nat.toDigits 16 n).length ≤ k ∧ List.replicate (k - (Nat.toDigits 16 n).length) 48 ++ (Nat.toDigits 16 n).map Char.toNat = hxs k n
  | 0, _, _, h => by omega
  | k + 1, n, hn, _ => by
    rw [Nat.toDigits_eq_if (by decide)]
    by_cases h : n < 16
    · rw [if_pos h]
      refine ⟨by simp, ?_⟩
      rw [hxs_back, Nat.div_eq_of_lt h, hxs_zero]
      show List.replicate (k + 1 - 1) 48 ++ [(Nat.digitChar n).toNat] = _
      rw [Nat.add_sub_cancel]
      unfold hxd
      rw [Nat.mod_eq_of_lt h]
    · rw [if_neg h]
      have hk : 1 ≤ k := by
        rcases k with _ | k
        · exact absurd (by simpa using hn) h
        · omega
      have hn' : n / 16 < 16 ^ k := by rw [Nat.pow_succ] at hn; omega
      obtain ⟨l, e⟩ := hxs_digits k (n / 16) hn' hk
      refine ⟨by rw [List.length_append]; simpa using l, ?_⟩
      rw [hxs_back, ← e, List.length_append, List.map_append, List.append_assoc]
      congr 2
      simp
def hexT (n : Nat) : Str := ⟨(hxs 8 n).toArray⟩
def spec08x : Str := ⟨#[48, 56, 120]⟩
def f08x : Builtin.Float.FormatSpec := { fill := 48, align := 61, width := some 8, type := some 120 }
section
variable {prog : Program} {w : World} {A : Around} {E : Value → Shared → Prop} {s : Shared} {a : Int} {t : Tok} {Q : Value → Shared → Prop}
theorem hex_text (h0 : 0 ≤ a) (h1 : a < 4294967296) : intField' f08x (decide (a < 0)) [] ((Nat.toDigits 16 a.natAbs).map fun c => (if (120 : Nat) == 88 then c.toUpper else c).toNat) [] 4 = hexT a.toNat := by
  have hneg : decide (a < 0) = false := decide_eq_false (by omega)
  have hl := tDigits_len_ge 16 a.natAbs
  have hd : ((Nat.toDigits 16 a.natAbs).map fun c => (if (120 : Nat) == 88 then c.toUpper else c).toNat).isEmpty = false := by
    cases h : Nat.toDigits 16 a.natAbs with
    | nil => rw [h] at hl; simp at hl
    | cons _ _ => rfl
  rw [hneg, intField'_zero_nonneg f08x _ 4 rfl rfl hd rfl rfl, List.length_map]
  have e : a.natAbs = a.toNat := by omega
  have := (hxs_digits 8 a.toNat (by omega) (by decide)).2
  rw [e]
  exact congrArg (fun z : List Nat => (⟨z.toArray⟩ : Str)) this
theorem field_hex (h0 : 0 ≤ a) (h1 : a < 4294967296) (h : ∀ t' k, Q (.str (hexT a.toNat) t') { s with toks := k }) : wpAny (model prog w) A (formatField (.int a t) spec08x) Q E s := by
  refine PySem.W.KXf.field_int (spec' := spec08x) rfl (by decide +kernel) (by decide +kernel) (fun u => ?_) h
  apply PySem.W.KPc.meets_of
  intro prog w A s Q E h
  unfold Builtin.«int.__format__»
  refine wpAny_bind (wpAny_of_eq (a := (_, _)) rfl ?_)
  refine wpAny_bind (wpAny_of_eq (a := _) rfl ?_)
  kxf_if
  refine wpAny_bind (wpAny_typeNameOf (T := "str") (typeIs_str _ _ _) (by decide) fun _ => ?_)
  refine wpAny_bind (wpAny_of_eq (a := some _) rfl ?_)
  kxf_if
  kxf_if
  refine wpAny_bind (wpAny_typeNameOfCut_int ?_)
  rw [show Builtin.Float.parseFormatSpec spec08x.cps.toList "int" 62 = .ok f08x by rfl]
  (repeat kxf_if)
  exact PySem.W.KXf.ret_text (hex_text h0 h1) (Nat.le_trans (Nat.le_of_eq (congrArg PySem.Str.length (hex_text h0 h1))) (by show (hxs 8 a.toNat).toArray.size ≤ _; rw [List.size_toArray, hxs_len]; decide)) h
end
section
variable {X : Cx}
/-- {x:08x} of a word -/
def tHex (te : TE) : TE := fun σ H Q => te σ H fun x H1 => ∃ i : Int, x = .int i ∧ 0 ≤ i ∧ i < 4294967296 ∧ Q (.str (hexT i.toNat)) H1
theorem pe_hex {e : Expr} {te : TE} {j : Nat} {p1 p2 p3 : Pos} (he : PE X e te) : PE X (.FormattedValue e (-1) (some (.JoinedStr [.Constant (.str spec08x) j p1] p2)) p3) (tHex te) := by
  refine ⟨fun pins s σ H Q I h => ?_⟩
  refine wpAny_FormattedValue_spec (thn (he.run pins s σ H _ I h) fun v s1 hv => ?_)
  obtain ⟨x, H1, I1, r1, i, rfl, h0, h1, q⟩ := hv
  obtain ⟨t, rfl⟩ := r1
  refine thn ((pe_joined1 (pe_str (x := spec08x) (j := j) (pos := p1)) (pos := p2)).run pins s1 σ H1 (fun x H' => x = .str spec08x ∧ H' = H1) I1 ⟨rfl, rfl⟩) fun r s2 hr => ?_
  obtain ⟨y, H2, I2, r2, rfl, rfl⟩ := hr
  obtain ⟨u, rfl⟩ := r2
  exact ⟨_, u, rfl, field_hex h0 h1 fun t' k => ⟨.str (hexT i.toNat), H2, I2.tok _, ⟨t', rfl⟩, q⟩⟩
theorem w_hex {te : TE} {σ : L2.St} {H : Hp} {Q : VK} (q : te σ H fun x H1 => ∃ i : Int, x = .int i ∧ 0 ≤ i ∧ i < 4294967296 ∧ Q (.str (hexT i.toNat)) H1) : tHex te σ H Q := q
end

/-! ### texts that are put together -/
def kFmt (Q : VK) : VK := fun x H1 => (∃ y : Str, x = .str y ∧ y.length ≤ sizeLine ∧ Q (.str y) H1) ∨ ∃ i : Int, x = .int i ∧ i.natAbs.log2 < 1920 ∧ Q (.str (toString i)) H1
/-- an int as a text -/
def dcT (i : Int) : Str := toString i
theorem dcT_len {i : Int} (h : i.natAbs < 4294967296) : (dcT i).length ≤ 11 := by
  have e := int_text_length_le10 (a := i) (k := 10) (by decide) (by omega)
  unfold dcT
  rw [PySem.ofString_length]
  omega
theorem log_small {i : Int} (h : i.natAbs < 4294967296) : i.natAbs.log2 < 1920 := by
  rcases Nat.eq_zero_or_pos i.natAbs with e | e
  · rw [e]; decide
  · exact Nat.lt_trans ((Nat.log2_lt (by omega)).mpr (show i.natAbs < 2 ^ 32 by omega)) (by decide)
def tJ (ts : List TE) : TE := fun σ H Q => tJs ts Str.empty σ H fun out H1 => Q (.str out) H1
theorem pe_J {X : Cx} {v1 v2 : Expr} {rest : List Expr} {ts : List TE} {pos : Pos} (h : PJ X (v1 :: v2 :: rest) ts) : PE X (.JoinedStr (v1 :: v2 :: rest) pos) (tJ ts) := pe_joined h
def kJs (acc : Str) (ts : List TE) (σ : L2.St) (Q : Str → Hp → Prop) : VK := fun x H1 => ∃ y : Str, x = .str y ∧ (acc ++ y).length ≤ sizeLine ∧ tJs ts (acc ++ y) σ H1 Q
def rStrQ : List V → Hp → VK → Prop := fun xs H Q => ∃ i, xs = [.int i] ∧ i.natAbs.log2 < 1920 ∧ Q (.str (toString i)) H
theorem call_strQ {X : Cx} : CallR X (.type "str") rStrQ := call_str_int
def rJoinQ (K : PySem.W.Frag) : V → List V → Hp → VK → Prop := fun x xs H Q => ∃ a p, ∃ ys : List Str, x = .str a ∧ xs = [.ref p] ∧ (SqL K H p (ys.map V.str) ∨ SqT K H p (ys.map V.str)) ∧
    (ys.map (·.length)).sum + ys.length * a.length ≤ 16777216 ∧ Q (.str (Txt.join a ys)) H
theorem mt_joinQ {X : Cx} : MtR X "str.join" (rJoinQ X.K) := mt_join
theorem cat_len (a b : Str) : (a ++ b).length = a.length + b.length := by
  show (a ++ b).cps.size = a.cps.size + b.cps.size
  rw [Str.cps_append, Array.size_append]
section
variable {te : TE} {σ : L2.St} {H : Hp} {Q : VK}
theorem w_fmt (q : te σ H (kFmt Q)) : tFmt te σ H Q := q
theorem w_kFmtS {y : Str} (h : y.length ≤ sizeLine) (q : Q (.str y) H) : kFmt Q (.str y) H := .inl ⟨y, rfl, h, q⟩
theorem w_kFmtI {i : Int} (h : i.natAbs < 4294967296) (q : Q (.str (dcT i)) H) : kFmt Q (.int i) H := .inr ⟨i, rfl, log_small h, q⟩
theorem w_J {ts : List TE} (q : tJs ts Str.empty σ H fun out H1 => Q (.str out) H1) : tJ ts σ H Q := q
theorem w_Js {t : TE} {ts : List TE} {acc : Str} {R : Str → Hp → Prop} (q : t σ H (kJs acc ts σ R)) : tJs (t :: ts) acc σ H R := q
theorem w_Js0 {acc : Str} {R : Str → Hp → Prop} (q : R acc H) : tJs [] acc σ H R := q
theorem w_kJs {ts : List TE} {acc y : Str} {R : Str → Hp → Prop} (h : (acc ++ y).length ≤ sizeLine) (q : tJs ts (acc ++ y) σ H R) : kJs acc ts σ R (.str y) H := ⟨y, rfl, h, q⟩
theorem w_strI {i : Int} (h : i.natAbs < 4294967296) (q : Q (.str (dcT i)) H) : rStrQ [.int i] H Q := ⟨i, rfl, log_small h, q⟩
theorem w_joinL {K : PySem.W.Frag} {a : Str} {p : Addr} (ys : List Str) (h : SqL K H p (ys.map V.str)) (hz : (ys.map (·.length)).sum + ys.length * a.length ≤ 16777216) (q : Q (.str (Txt.join a ys)) H) : rJoinQ K (.str a) [.ref p] H Q := ⟨a, p, ys, rfl, rfl, .inl h, hz, q⟩
end
section
variable {g : TG} {tb : TS} {D : Ends} {σ : L2.St} {H : Hp}
theorem w_forR2 {j : Int} (n : Nat) (Pv : Nat → L2.St → Hp → Prop) (hn : (j - 1).toNat = n) (hj : n < 4611686018427387903 ∧ -4611686018427387904 ≤ j) (h0 : Pv 0 σ H)
    (hs : ∀ i σ H, i < n → Pv i σ H → g (.int (1 + (i : Int))) σ H fun σ2 H2 => tb { D with nx := Pv (i + 1), ct := Pv (i + 1), bk := D.nx } σ2 H2) (hd : ∀ σ H, Pv n σ H → D.nx σ H) : kR2 (kFor g tb D σ) [.int 1, .int j] H := by
  refine ⟨1, j, rfl, ⟨by decide, by decide, by show -4611686018427387904 ≤ j; omega, by show j < 4611686018427387904; omega⟩, ?_⟩
  subst hn
  exact for_range (lo := 1) (n := (j - 1).toNat) Pv h0 (fun i σ H hi p => hs i σ H hi p) hd
end
end Co

set_option Elab.async false
set_option linter.all false
set_option maxRecDepth 100000
set_option maxHeartbeats 4000000
namespace Co
open PySem PySem.Spec PyProof.Rows L2
/-! ### sorted(rows) of pairs of an int and a text -/
/-- the int that a pair begins with -/
def kF (H : Hp) : V → Int
  | .ref t => match H t with
    | some (.tup (.int i :: _)) => i
    | _ => 0
  | _ => 0
abbrev shp : Nat → Bool := fun i => i == 1
theorem tups_ex {h : Heap} : ∀ {vs : List Value}, (∀ v ∈ vs, ∃ f, TupOf h shp v f) → ∃ fs, TupsOf h shp vs fs
  | [], _ => ⟨[], .nil⟩
  | v :: vs, h => by
    obtain ⟨f, hf⟩ := h v List.mem_cons_self
    obtain ⟨fs, hr⟩ := tups_ex fun u hu => h u (List.mem_cons_of_mem _ hu)
    exact ⟨f :: fs, .cons hf hr⟩
def rSortedT (K : PySem.W.Frag) : List V → Hp → VK → Prop := fun vs H Q => ∃ a xs, vs = [V.ref a] ∧ SqL K H a xs ∧ (∀ x ∈ xs, ∃ t i z, x = V.ref t ∧ H t = some (.tup [.int i, .str z])) ∧
  ∀ ys p, ys.Perm xs → (ys.map (kF H)).Pairwise (· ≤ ·) → H p = none → Q (.ref p) (upd H p (.lst ys))
theorem cr_sortedT {X : Cx} : CallR X (.builtin "sorted") (rSortedT X.K) := by
  intro pins s σ H vs us Q I r h
  obtain ⟨a, xs, rfl, hs, hx, q⟩ := h
  obtain ⟨its, rv, hl, hz⟩ := I.list hs
  obtain ⟨u, rfl, ru⟩ := vals1 r
  obtain rfl : u = Value.ref a := ru
  obtain ⟨e1, e2⟩ := refs_back rv fun x m => by
    obtain ⟨t, _, _, e, _⟩ := hx x m
    exact ⟨t, e⟩
  have each : ∀ v ∈ its, ∃ t i z o t1 t2 n, v = Value.ref t ∧ H t = some (.tup [.int i, .str z]) ∧ s.heap.get? t = some o ∧ o.cls = .type "tuple" ∧ o.data = .seq #[.int i t1, .str z t2] n := fun v hv => by
    obtain ⟨t, rfl⟩ := e2 v hv
    have hm : V.ref t ∈ xs := by rw [e1]; exact List.mem_map.mpr ⟨_, hv, rfl⟩
    obtain ⟨t', i, z, e, ht⟩ := hx _ hm
    cases e
    obtain ⟨_, its2, r2, o, ho, hc, n, hd⟩ := I.hok _ _ ht
    obtain ⟨u1, u2, rfl, ri, rj⟩ := vals2 r2
    obtain ⟨t1, rfl⟩ := ri
    obtain ⟨t2, rfl⟩ := rj
    exact ⟨t, i, z, o, t1, t2, n, rfl, ht, ho, hc, hd⟩
  have key : ∀ v ∈ its, ∃ y, G.tupKeyC s.heap shp v = some [Sum.inl (kF H (backV v)), Sum.inr y] := fun v hv => by
    obtain ⟨t, i, z, o, t1, t2, n, rfl, ht, ho, hc, hd⟩ := each v hv
    refine ⟨z.cps.toList, ?_⟩
    have ek : kF H (backV (.ref t)) = i := by
      show (match H t with | some (.tup (.int i :: _)) => i | _ => 0) = i
      rw [ht]
    rw [ek]
    unfold G.tupKeyC G.isTupObj
    simp only [ho, hc]
    rw [if_pos (by decide)]
    unfold tupKey
    simp only [ho, hd]
    rfl
  obtain ⟨fs, ht⟩ := tups_ex (h := s.heap) (vs := its) fun v hv => by
    obtain ⟨t, i, z, o, t1, t2, n, rfl, ht, ho, hc, hd⟩ := each v hv
    exact ⟨.int i t1, t, o, _, n, rfl, ho, hc, hd, rfl, fun _ => ⟨_, _, rfl⟩, fun e => absurd e (by decide)⟩
  refine G.sorted_tups (shape := shp) hl.isList ht (fun v hv => by obtain ⟨y, e⟩ := key v hv; exact ⟨_, e⟩) (by rw [← rv.length]; exact hz) fun st' hp hst _ => ?_
  have mem : ∀ p, p ∈ (arrOf st').toList → p.1 = p.2 ∧ p.1 ∈ its := fun p hp' => by
    have h2 : p ∈ (pairsOf its).toList := (Array.perm_iff_toList_perm.mp hp).mem_iff.mp hp'
    rw [pairsOf_toList] at h2
    exact mem_zip_self h2
  have sz : (arrOf st').size = its.length := by rw [hp.size_eq, pairsOf_size]
  obtain ⟨ep, he'⟩ := sortedAll_at s.heap its ((arrOf st').map (·.2))
  have ol : ((arrOf st').map (·.2)).toList = (arrOf st').toList.map (·.2) := Array.toList_map
  have om : ∀ u ∈ (arrOf st').toList.map (·.2), ∃ a, u = Value.ref a := fun u hu => by
    obtain ⟨p, hp', rfl⟩ := List.mem_map.mp hu
    obtain ⟨e, m⟩ := mem p hp'
    exact e2 _ (e ▸ m)
  have pm : (((arrOf st').toList.map (·.2)).map backV).Perm xs := by
    rw [e1]
    refine List.Perm.map _ ?_
    have := (Array.perm_iff_toList_perm.mp hp).map (·.2)
    rw [pairsOf_toList] at this
    have ez : (its.zip its).map (·.2) = its := by rw [List.map_snd_zip]; omega
    rw [ez] at this
    exact this
  have hlen : (((arrOf st').toList.map (·.2)).map backV).length ≤ sizeLine := by rw [pm.length_eq]; exact hz
  refine ⟨.ref _, upd H (s.heap.objs.size + 1) (.lst (((arrOf st').toList.map (·.2)).map backV)), I.laid (t' := s.toks) (fun _ _ => sortedAll_old) (Nat.le_succ _) ⟨hlen, ((arrOf st').map (·.2)).toList, ep, by rw [ol]; exact vals_back om, by rw [Array.toArray_toList]; exact he'⟩, rfl, q _ _ pm ?_ (I.hok.fresh (Nat.le_succ _))⟩
  rw [List.pairwise_iff_getElem]
  intro i j hi hj hij
  simp only [List.length_map, Array.length_toList] at hi hj
  have hK : ∀ k (hk : k < (arrOf st').size), ∃ y, KK (G.tupKindC s.heap shp) (arrOf st') k = [Sum.inl (kF H (backV (arrOf st')[k].2)), Sum.inr y] := fun k hk => by
    obtain ⟨e, m⟩ := mem (arrOf st')[k] (by simp)
    obtain ⟨y, ey⟩ := key _ m
    refine ⟨y, ?_⟩
    unfold KK
    rw [Array.getElem?_eq_getElem hk]
    show ((G.tupKeyC s.heap shp (arrOf st')[k].1).getD _) = _
    rw [ey, e]
    rfl
  obtain ⟨y1, k1⟩ := hK i hi
  obtain ⟨y2, k2⟩ := hK j hj
  have o := hst i j (Nat.le_of_lt hij) (by rw [pairsOf_size, ← sz]; exact hj)
  rw [k1, k2] at o
  have o2 := (lex_false.mp o).1
  have o3 : decide (kF H (backV (arrOf st')[j].2) < kF H (backV (arrOf st')[i].2)) = false := o2
  have o4 := of_decide_eq_false o3
  simp only [List.getElem_map, Array.getElem_toList]
  omega
end Co
namespace Co
open PySem PySem.Spec PyProof.Rows L2
/-! ### rows.count(row) of rows that are data: some number -/
def rCntD (K : PySem.W.Frag) : V → List V → Hp → VK → Prop := fun x xs H Q => ∃ (p : Addr) (ys : List V) (z : V) (d : PyData), x = .ref p ∧ xs = [z] ∧ SqL K H p ys ∧ (∀ y ∈ ys, ∃ e, Dp K H y e ∧ e.canLay0 = true) ∧ Dp K H z d ∧ d.canLay0 = true ∧ d.depth ≤ 8 ∧ ∀ n : Nat, Q (.int n) H
theorem vals_mem : ∀ {xs : List V} {us : List Value}, Vals xs us → ∀ u ∈ us, ∃ x ∈ xs, RelV x u
  | _, _, .nil, u, h => by cases h
  | x :: xs, _ :: us, .cons r t, u, h => by
    rcases List.mem_cons.mp h with rfl | h
    · exact ⟨x, List.mem_cons_self, r⟩
    · obtain ⟨y, hy, e⟩ := vals_mem t u h
      exact ⟨y, List.mem_cons_of_mem _ hy, e⟩
open Classical in
theorem mt_lcountD {X : Cx} (hu : X.A.units + 64 < cLine) : MtR X "list.count" (rCntD X.K) := by
  intro pins s σ H x xs v us Q I rx rxs h
  obtain ⟨p, ys, z, d, rfl, rfl, hs, hy, hz, cd, dd, q⟩ := h
  cases rx
  obtain ⟨u, rfl, ru⟩ := rxs.one
  obtain ⟨its, rv, ⟨⟨cls, dd', data, sl⟩, n, ho, hc, hdn, hd⟩, hlen⟩ := I.list hs
  simp only at hc hd
  subst hc hd
  obtain ⟨bs, r2⟩ := Dp.reads I d z u hz ru
  have ev : ∀ y ∈ its.toArray, ∃ b, SeqAt.EqAt X.A.in1 s y u b := fun y hm => by
    obtain ⟨y', hy', ry⟩ := vals_mem rv y (by simpa using hm)
    obtain ⟨e, he, ce⟩ := hy y' hy'
    obtain ⟨as, r1⟩ := Dp.reads I e y' y he ry
    exact ⟨_, SeqAt.eqAt_reads e d X.A.in1 s y u as bs r1 r2 ce cd (by show X.A.units + 1 + _ < cLine; omega)⟩
  let f : Value → Bool := fun y => if h : ∃ b, SeqAt.EqAt X.A.in1 s y u b then h.choose else false
  refine call_meets PySem.F.slot_list_count ⟨_, ho, rfl⟩ PySem.F.entry_list_count (PySem.F.args_list_count_2 _ _)
    (SeqAt.list_countAt p its.toArray n dd' sl u f) ⟨ho, fun y hm => ?_, ?_⟩
  · have h := ev y hm
    show SeqAt.EqAt _ _ y u (f y)
    have e : f y = h.choose := dif_pos h
    rw [e]
    exact h.choose_spec
  · exact ⟨.int (its.toArray.toList.countP f : Nat), H, I.tok _, ⟨s.toks, rfl⟩, q _⟩
theorem w_cntD {K : PySem.W.Frag} {p : Addr} {ys : List V} {z : V} {d : PyData} {H : Hp} {Q : VK} (h : SqL K H p ys) (hy : ∀ y ∈ ys, ∃ e, Dp K H y e ∧ e.canLay0 = true) (hz : Dp K H z d) (cd : d.canLay0 = true) (dd : d.depth ≤ 8) (q : ∀ n : Nat, Q (.int n) H) : rCntD K (.ref p) [z] H Q := ⟨p, ys, z, d, rfl, rfl, h, hy, hz, cd, dd, q⟩
theorem w_sortedT {K : PySem.W.Frag} {a : Addr} {xs : List V} {H : Hp} {Q : VK} (h : SqL K H a xs) (hx : ∀ x ∈ xs, ∃ t i z, x = V.ref t ∧ H t = some (.tup [.int i, .str z])) (q : ∀ ys p H', ys.Perm xs → (ys.map (kF H)).Pairwise (· ≤ ·) → H p = none → Same H H' → H' p = some (.lst ys) → Q (.ref p) H') : rSortedT K [.ref a] H Q :=
  ⟨a, xs, rfl, h, hx, fun ys p h1 h2 h3 => q ys p _ h1 h2 h3 (Same.new h3) upd_same⟩
theorem w_brk {D : Ends} {σ : L2.St} {H : Hp} (q : D.bk σ H) : tBreak D σ H := q
end Co

set_option Elab.async false
set_option linter.all false
set_option maxRecDepth 100000
set_option maxHeartbeats 4000000
namespace Co
open PySem PySem.Spec PyProof.Rows L2
theorem mt_lcountDK {X : Cx} {K' : PySem.W.Frag} (hK : X.K = K') (hu : X.A.units + 64 < cLine) : MtR X "list.count" (rCntD K') := by subst hK; exact mt_lcountD hu
theorem pe_bmK {X : Cx} {K' : PySem.W.Frag} {o e : Expr} {es : List Expr} {to : TE} {t : TA} {name : Str} {apos cpos : Pos} {T id : String} {r : V → List V → Hp → VK → Prop} (hK : X.K = K') (pa : PlainAttrs T) (slot : Slot T name id) (hty : typeOf (.builtin id) = pure (.type "method_descriptor")) (hm : MtR X id r) (ho : PE X o to) (ha : PA X (e :: es) t)
    (hbase : attributeBase o name X.env (eval o X.env) = eval o X.env := by rfl)
    (hfew : ((backTo cpos (starEach (e :: es) X.env)).all (fun x => !x.1) && (backToKw cpos (keywordEach [] X.env)).all (fun x => x.1.isSome)
      && decide ((e :: es).length + ([] : List Keyword).length + (if ([] : List Keyword).isEmpty then 0 else 1) < 30)) = true := by rfl)
    (hline : (apos.endLine == cpos.line) = true := by rfl) (hs : starEach (e :: es) X.env = (false, eval e X.env) :: starEach es X.env := by rfl) (hplain : (backTo cpos (starEach es X.env)).any (·.1) = false := by rfl) :
    PE X (.Call (.Attribute o name apos) (e :: es) [] cpos) (tBM K' T r to t) := by subst hK; exact pe_bm pa slot hty hm ho ha hbase hfew hline hs hplain
/-! ### texts whose signs are all signs; lists of texts as data -/
theorem sO_cat {a b : Str} (h1 : PyData.strOk a = true) (h2 : PyData.strOk b = true) : PyData.strOk (a ++ b) = true := by
  unfold PyData.strOk at *
  rw [Str.cps_append, Array.all_append, h1, h2]
  rfl
theorem sO_char (c : Char) : c.toNat < 0x110000 := by
  rcases c.valid with h | h
  · have : c.toNat < 0xd800 := h
    omega
  · exact h.2
theorem sO_list {l : List Nat} (h : ∀ x ∈ l, x < 0x110000) : PyData.strOk ⟨l.toArray⟩ = true := by
  unfold PyData.strOk
  rw [List.all_toArray, List.all_eq_true]
  exact fun x hx => decide_eq_true (h x hx)
theorem sO_ofString (s : String) : PyData.strOk (s : Str) = true := by
  rw [show ((s : Str)) = ⟨(s.toList.map Char.toNat).toArray⟩ from Str.ofString_eq_toList s]
  refine sO_list fun x hx => ?_
  obtain ⟨c, _, rfl⟩ := List.mem_map.mp hx
  exact sO_char c
theorem sO_dc (i : Int) : PyData.strOk (dcT i) = true := sO_ofString _
theorem hxs_ok : ∀ k n, ∀ x ∈ hxs k n, x < 0x110000
  | 0, _, x, h => by cases h
  | k + 1, n, x, h => by
    rcases List.mem_cons.mp h with rfl | h
    · exact sO_char _
    · exact hxs_ok k n x h
theorem sO_hex (n : Nat) : PyData.strOk (hexT n) = true := sO_list (hxs_ok 8 n)
theorem sO_join (a : Str) (ha : PyData.strOk a = true) : ∀ ys : List Str, (∀ y ∈ ys, PyData.strOk y = true) → PyData.strOk (Txt.join a ys) = true := by
  intro ys
  rw [TL.join_eq]
  induction ys with
  | nil => intro _; rw [Str.join]; exact sO_list (l := []) (fun x h => by cases h)
  | cons x r ih =>
    intro h
    cases r with
    | nil => rw [Str.join]; exact h x List.mem_cons_self
    | cons y r =>
      show PyData.strOk (x ++ a ++ Str.join a (y :: r)) = true
      exact sO_cat (sO_cat (h x List.mem_cons_self) ha) (ih fun z hz => h z (List.mem_cons_of_mem _ hz))
theorem lay_strs : ∀ xs : List Str, (∀ x ∈ xs, PyData.strOk x = true) → PyData.canLayAll0 (xs.map .str) = true ∧ PyData.depthAll (xs.map .str) = 0
  | [], _ => by simp [PyData.canLayAll0, PyData.depthAll]
  | x :: r, h => by
    have := lay_strs r fun y hy => h y (List.mem_cons_of_mem _ hy)
    simp [PyData.canLayAll0, PyData.depthAll, PyData.canLay0, PyData.depth, this.1, this.2, h x List.mem_cons_self]
theorem dpStrs {K : PySem.W.Frag} {H : Hp} : ∀ xs : List Str, DpAll K H (xs.map V.str) (xs.map .str)
  | [] => .nil
  | x :: r => .cons (.str x) (dpStrs r)
theorem strs_shaped {xs : List Str} (h : ∀ x ∈ xs, PyData.strOk x = true) : SeqAt.shaped (.list (xs.map .str)) = true := by
  have l := lay_strs xs h
  simp only [SeqAt.shaped, PyData.canLay0, PyData.depth, l.1, l.2, Bool.true_and, decide_eq_true_eq]
  decide
theorem ints_shaped (xs : List Int) : SeqAt.shaped (.list (xs.map .int)) = true := by
  have l := lay_ints xs
  simp only [SeqAt.shaped, PyData.canLay0, PyData.depth, l.1, l.2, Bool.true_and, decide_eq_true_eq]
  decide
/-- a list against the empty one -/
theorem w_neE0 {K : PySem.W.Frag} {p q : Addr} {xs : List V} {ds : List PyData} {H : Hp} {Q : VK} (h1 : SqL K H p xs) (hd : DpAll K H xs ds) (h2 : SqL K H q []) (s : SeqAt.shaped (.list ds) = true) (k : Q (.bl (!decide (xs = []))) H) : rNeD K (.ref p) (.ref q) H Q :=
  ⟨.list ds, .list [], .lst h1 hd, .lst h2 .nil, s, by decide, by
    cases hd with
    | nil => exact k
    | cons _ _ => exact k⟩
end Co

set_option Elab.async false
set_option linter.all false
set_option maxRecDepth 100000
set_option maxHeartbeats 4000000
namespace Co
open PySem PySem.Spec PyProof.Rows L2 RZ
/-! ### x in (a, b) of data; == and != of data inside a comprehension -/
def rInDT (K : PySem.W.Frag) : R2 := fun x y H Q => ∃ d ds, Dp K H x d ∧ Dp K H y (.tuple ds) ∧ SeqAt.shaped d = true ∧ SeqAt.shaped (.tuple ds) = true ∧ Q (.bl (ds.any fun z => PyData.eqv z d)) H
theorem room_in {A : Around} {xs : List PyData} {d : PyData} (sd : SeqAt.shaped d = true) (hu : A.units + 65 < cLine) : A.units + 1 + min (PyData.depthAll xs) d.depth < cLine := by
  have : d.depth ≤ 64 := by
    unfold SeqAt.shaped at sd
    simp only [Bool.and_eq_true, decide_eq_true_eq] at sd
    exact sd.2
  have := Nat.min_le_right (PyData.depthAll xs) d.depth
  omega
theorem op_inDT {X : Cx} (hu : X.A.units + 65 < cLine) : OpR X (compareOp .In) (rInDT X.K) := by
  intro pins s σ H x y v u Q I rx ry h
  obtain ⟨d, ds, hd, he, sd, se, q⟩ := h
  obtain ⟨as, r1⟩ := Dp.reads I d x v hd rx
  obtain ⟨bs, r2⟩ := Dp.reads I (.tuple ds) y u he ry
  exact SeqAt.in_tuple_reads r2 r1 (SeqAt.canLay_of_shaped se) (SeqAt.canLay_of_shaped sd) (room_in sd hu) ⟨.bl _, H, I, rfl, q⟩
theorem op_eqDK {X : Cx} {K' : PySem.W.Frag} (hK : X.K = K') (hu : X.A.units + 64 < cLine) : OpR X (compareOp .Eq) (rEqD K') := by subst hK; exact op_eqD hu
theorem op_neDK {X : Cx} {K' : PySem.W.Frag} (hK : X.K = K') (hu : X.A.units + 64 < cLine) : OpR X (compareOp .NotEq) (rNeD K') := by subst hK; exact op_neD hu
theorem hu65 {A : Around} {k : Nat} (hr : Room k A) : A.units + 65 < cLine := by have := hr.un; omega
/-! ### extend, dict.get with two arguments, sorted and list of a dict -/
theorem w_extend {p b : Addr} {xs zs : List V} {H : Hp} {Q : VK} (h : H p = some (.lst xs)) (hb : H b = some (.lst zs)) (hl : xs.length + zs.length ≤ sizeLine) (q : ∀ H', H' p = some (.lst (xs ++ zs)) → But p H H' → Q .non H') : rExtend (.ref p) [.ref b] H Q := ⟨p, b, xs, zs, rfl, rfl, h, hb, hl, q _ upd_same But.set⟩
def kI (i : Int) : Key := Sum.inl i
theorem w_dget2 {td ty tx : TE} {σ : L2.St} {H : Hp} {Q : VK} (q : td σ H fun x H1 => ∃ a, x = .ref a ∧ IsD H1 a ∧ ty σ H1 fun y H2 => tx σ H2 fun z H3 => ∃ o, DGet H3 a y o ∧ Q (o.getD z) H3) : tDGet2 td ty tx σ H Q := q
theorem DGet.i {H : Hp} {a : Addr} {kvs : List (Key × V)} {k : Int} (e : H a = some (.dK kvs)) : DGet H a (.int k) (valV kvs (kI k)) := DGet.k (k := kI k) e
def rSortedDI : List V → Hp → VK → Prop := fun xs H Q => ∃ (a : Addr) (kvs : List (Key × V)) (ks : List Int), xs = [.ref a] ∧ Rd H a (.dK kvs) ∧ kvs.map (·.1) = ks.map Sum.inl ∧ ks.length < 64 ∧ ∀ (ys : List Int) (p : Addr), ys.Perm ks → ys.Pairwise (· ≤ ·) → H p = none → Q (.ref p) (upd H p (.lst (ys.map V.int)))
theorem cr_sortedDI {X : Cx} (hc : X.calm = true) : CallR X (.builtin "sorted") rSortedDI := call_sortedDI hc
theorem w_sortedDI {a : Addr} {kvs : List (Key × V)} (ks : List Int) {H : Hp} {Q : VK} (h : H a = some (.dK kvs)) (e : kvs.map (·.1) = ks.map Sum.inl) (hl : ks.length < 64) (q : ∀ (ys : List Int) p H', ys.Perm ks → ys.Pairwise (· ≤ ·) → H p = none → Same H H' → H' p = some (.lst (ys.map V.int)) → Q (.ref p) H') : rSortedDI [.ref a] H Q :=
  ⟨a, kvs, ks, rfl, .inl h, e, hl, fun ys p h1 h2 h3 => q ys p _ h1 h2 h3 (Same.new h3) upd_same⟩
def rListDK : List V → Hp → VK → Prop := fun xs H Q => ∃ (a : Addr) (kvs : List (Key × V)), xs = [.ref a] ∧ Rd H a (.dK kvs) ∧ ∀ p, H p = none → Q (.ref p) (upd H p (.lst (kvs.map fun kv => kV kv.1)))
theorem cr_listDK {X : Cx} (hc : X.calm = true) : CallR X (.type "list") rListDK := call_listD hc
theorem w_listDK {a : Addr} {kvs : List (Key × V)} {H : Hp} {Q : VK} (h : H a = some (.dK kvs)) (q : ∀ p H', H p = none → Same H H' → H' p = some (.lst (kvs.map fun kv => kV kv.1)) → Q (.ref p) H') : rListDK [.ref a] H Q :=
  ⟨a, kvs, rfl, .inl h, fun p np => q p _ np (Same.new np) upd_same⟩
theorem w_kDPi {p : Addr} {kvs kvs' : List (Key × V)} {z : Int} {v : V} {D : Ends} {σ : L2.St} {H : Hp} (h : H p = some (.dK kvs)) (hl : kvs.length < 1000) (e : putK kvs (kI z) v = kvs') (q : ∀ H', H' p = some (.dK kvs') → But p H H' → D.nx σ H') : ∃ a H4, V.ref p = .ref a ∧ DPut H a (.int z) v H4 ∧ D.nx σ H4 :=
  ⟨p, _, rfl, DPut.k (k := kI z) h (Nat.lt_of_lt_of_le hl (by decide)), q _ (by rw [e]; exact upd_same) But.set⟩
theorem w_kDGi {p : Addr} {kvs : List (Key × V)} {z : Int} {v : V} {H : Hp} {Q : VK} (h : H p = some (.dK kvs)) (e : valV kvs (kI z) = some v) (q : Q v H) : ∃ a v, V.ref p = .ref a ∧ DGet H a (.int z) (some v) ∧ Q v H := ⟨p, v, rfl, by have := DGet.i (k := z) h; rw [e] at this; exact this, q⟩
/-! ### comprehensions over range with a step, over zip of two tuples -/
def kR3 (R : It → Hp → Prop) : List V → Hp → Prop := fun vs H1 => ∃ (i j c : Int) (n : Nat), vs = [.int i, .int j, .int c] ∧ RgC i j c n ∧ R (Itc i c n) H1
theorem w_rng3 {ta : TA} {σ : L2.St} {H : Hp} {R : It → Hp → Prop} (q : ta σ H (kR3 R)) : iRng3 ta σ H R := q
theorem rg4 (n : Nat) (hn : n < 1000000) : RgC 0 (4 * (n : Int)) 4 n := by
  have e : Builtin.Range.rangeSize 0 (4 * (n : Int)) 4 = n := by
    unfold Builtin.Range.rangeSize
    rw [if_pos (by decide)]
    split <;> omega
  have f : ∀ x : Int, -1000000000 ≤ x → x ≤ 1000000000 → Builtin.Range.rangeFitsLong x = true := fun x h1 h2 => by
    unfold Builtin.Range.rangeFitsLong
    rw [Bool.and_eq_true, decide_eq_true_iff, decide_eq_true_iff]
    exact ⟨by omega, by omega⟩
  refine ⟨by decide, by decide, ?_, e⟩
  unfold Builtin.Range.small
  rw [e]
  rw [f 0 (by decide) (by decide), f (4 * (n : Int)) (by omega) (by omega), f 4 (by decide) (by decide), f (n : Int) (by omega) (by omega), if_pos (by decide), f (4 * (n : Int) + (4 - 1)) (by omega) (by omega)]
  simp
theorem w_lcC {g : TG} {tt : TT} {te : TE} {vs : List Nat} {σ : L2.St} {H : Hp} {Q : VK} {i j c : Int} (n : Nat) (Pv : Addr → Nat → Hp → Prop) (hn : RgC i j c n) (h0 : ∀ D, H D = none → Pv D 0 (upd H D (.lst [])))
    (hs : ∀ D k H, k < n → Pv D k H → g (.int (i + (k : Nat) * c)) (wipe σ vs) H fun σ2 H2 => wipe σ2 vs = wipe σ vs ∧ tt σ2 H2 fun b H3 =>
      if b = true then te σ2 H3 fun y H4 => ∃ acc, H4 D = some (.lst acc) ∧ acc.length < sizeLine ∧ Pv D (k + 1) (upd H4 D (.lst (acc ++ [y]))) else Pv D (k + 1) H3) (hd : ∀ D H', H D = none → Pv D n H' → Q (.ref D) H') : kR3 (kLc g tt te vs σ Q) [.int i, .int j, .int c] H := by
  refine ⟨i, j, c, n, rfl, hn, fun D nD => ⟨fun k m H => m = n - k ∧ k ≤ n ∧ Pv D k H, ⟨n, rfl, Nat.zero_le _, h0 D nD⟩, ?_⟩⟩
  rintro k m H' ⟨rfl, hk, p⟩
  rcases Nat.lt_or_ge k n with lt | ge
  · refine .inr ⟨lt, Pv D (k + 1), fun H2 p2 => ⟨n - (k + 1), by omega, rfl, lt, p2⟩, fun v H2 y => ?_⟩
    obtain ⟨rfl, rfl⟩ := y
    exact hs D k _ lt p
  · obtain rfl : k = n := by omega
    exact .inl ⟨Nat.le_refl _, hd D H' nD p⟩
def kZA (K : PySem.W.Frag) (R : It → Hp → Prop) : List V → Hp → Prop := fun vs H1 => ∃ a b xs ys, vs = [.ref a, .ref b] ∧ ((SqL K H1 a xs ∧ SqL K H1 b ys ∧ R (Itz K a b) H1) ∨ (SqT K H1 a xs ∧ SqT K H1 b ys ∧ R (ItzT K a b) H1))
theorem w_zA {K : PySem.W.Frag} {ta : TA} {σ : L2.St} {H : Hp} {R : It → Hp → Prop} (q : ta σ H (kZA K R)) : iZipA K ta σ H R := q
theorem w_lcZT {K : PySem.W.Frag} {g : TG} {tt : TT} {te : TE} {vs : List Nat} {σ : L2.St} {H : Hp} {Q : VK} {a b : Addr} (xs ys : List V) (Pv : Addr → Nat → Hp → Prop) (hx : SqT K H a xs) (hy : SqT K H b ys) (hl : xs.length = ys.length) (h0 : ∀ D, H D = none → Pv D 0 (upd H D (.lst []))) (hq : ∀ D i H, Pv D i H → SqT K H a xs ∧ SqT K H b ys)
    (hs : ∀ D i x y T H H', xs[i]? = some x → ys[i]? = some y → Pv D i H → H T = none → Same H H' → H' T = some (.tup [x, y]) → g (.ref T) (wipe σ vs) H' fun σ2 H2 => wipe σ2 vs = wipe σ vs ∧ tt σ2 H2 fun b H3 =>
      if b = true then te σ2 H3 fun y H4 => ∃ acc, H4 D = some (.lst acc) ∧ acc.length < sizeLine ∧ Pv D (i + 1) (upd H4 D (.lst (acc ++ [y]))) else Pv D (i + 1) H3) (hd : ∀ D H', H D = none → Pv D xs.length H' → Q (.ref D) H') : kZA K (kLc g tt te vs σ Q) [.ref a, .ref b] H := by
  refine ⟨a, b, xs, ys, rfl, .inr ⟨hx, hy, fun D nD => ⟨fun i m H => m = xs.length - i ∧ i ≤ xs.length ∧ Pv D i H, ⟨xs.length, rfl, Nat.zero_le _, h0 D nD⟩, ?_⟩⟩⟩
  rintro i m H' ⟨rfl, hi, p⟩
  obtain ⟨qx, qy⟩ := hq D i H' p
  rcases Nat.lt_or_ge i xs.length with lt | ge
  · have e1 : xs[i]? = some xs[i] := List.getElem?_eq_getElem lt
    have lt2 : i < ys.length := by omega
    have e2 : ys[i]? = some ys[i] := List.getElem?_eq_getElem lt2
    refine .inr ⟨⟨xs, ys, _, _, qx, qy, e1, e2⟩, Pv D (i + 1), fun H2 p2 => ⟨xs.length - (i + 1), by omega, rfl, lt, p2⟩, fun v H2 y => ?_⟩
    obtain ⟨T, x', y', rfl, nT, rfl, f1, f2⟩ := y
    exact hs D i x' y' T H' _ (f1 xs qx) (f2 ys qy) p nT (Same.new nT) upd_same
  · obtain rfl : i = xs.length := by omega
    exact .inl ⟨⟨xs, ys, qx, qy, .inl (Nat.le_refl _)⟩, hd D H' nD p⟩
end Co
namespace Co
open PySem PySem.Spec PyProof.Rows L2 RZ
/-- text in d, of a dict of the module -/
def rInKG (K : PySem.W.Frag) (w : World) : R2 := fun x y H Q => ∃ z o d, x = .str z ∧ y = .ref d ∧ KGet K w d z o ∧ Q (.bl o.isSome) H
theorem op_inKG {X : Cx} : OpR X (compareOp .In) (rInKG X.K X.w) := by
  intro pins s σ H x y v u Q I rx ry h
  obtain ⟨z, o, d, rfl, rfl, ⟨es, n, hl, hk, hm, hv⟩, q⟩ := h
  rcases hv with ⟨rfl, e⟩ | ⟨v', u', rfl, e, _⟩
  · exact op_in_kd ⟨hl, hk, hm⟩ pins s σ H _ _ v u Q I rx ry ⟨z, none, rfl, rfl, e, q⟩
  · exact op_in_kd ⟨hl, hk, hm⟩ pins s σ H _ _ v u Q I rx ry ⟨z, some u', rfl, rfl, e, q⟩
theorem w_inKG {K : PySem.W.Frag} {w : World} {z : Str} {o : Option V} {d : Addr} {H : Hp} {Q : VK} (g : KGet K w d z o) (q : Q (.bl o.isSome) H) : rInKG K w (.str z) (.ref d) H Q := ⟨z, o, d, rfl, rfl, g, q⟩
end Co
namespace Co
open PySem PySem.Spec PyProof.Rows L2 RZ
theorem w_dnewK {σ : L2.St} {H : Hp} {Q : VK} (q : ∀ p H', H p = none → Same H H' → H' p = some (.dK []) → Q (.ref p) H') : tDNewK σ H Q := fun p np => q p _ np (Same.new np) upd_same
end Co

set_option Elab.async false
set_option linter.all false
set_option maxRecDepth 100000
set_option maxHeartbeats 4000000
open PySem PySem.Spec PyProof.Rows L2 Co
namespace Co
open He
/-- what is named, by levels -/
def lvl (g : Addr → Option Obj) : Nat → List Addr → List Addr
  | 0, as => as
  | n + 1, as => as ++ lvl g n (as.flatMap fun a => match g a with
    | some o => refsD o
    | none => [])
def frN (g : Addr → Option Obj) (n : Nat) : PySem.W.Frag := frG g (lvl g n [mainGlobals])
/-- a def: where it stands, its names, its statement -/
structure Fx where
  at_ : PySem.W.Frag → Addr
  name : Str
  qual : Str
  st : Stmt
def fxObs (K : PySem.W.Frag) (d : Fx) : FnV := match K.lookup (d.at_ K) with
  | some ⟨_, _, .func fd, _⟩ => some (fd.name, fd.qualname, fd.params, fd.body, fd.scope, fd.globals, fd.closure, fd.defaults, fd.builtins)
  | _ => none
def Fx.val (d : Fx) : FnV := some (d.name, d.qual, defArgs d.st, .stmts (defBody d.st), defScope d.st, mainGlobals, [], .none, builtinsNs)
def Fx.ok (K : PySem.W.Frag) (d : Fx) : Bool := PySem.W.keepIn K (.ref (d.at_ K)) && (match K.lookup (d.at_ K) with
  | some ⟨_, _, .func fd, _⟩ => PySem.W.codeIn K fd.code d.qual
  | _ => false)
theorem fx_ok {K : PySem.W.Frag} {d : Fx} (e : fxObs K d = d.val) (c : d.ok K = true) : ∃ fd, Fun K d.name d.qual d.st (d.at_ K) fd := by
  obtain ⟨kp, c2⟩ := ba c
  unfold fxObs at e
  cases q : K.lookup (d.at_ K) with
  | none =>
    rw [q] at c2
    cases c2
  | some o =>
    obtain ⟨oc, od, dt, osl⟩ := o
    rw [q] at c2 e
    cases dt with
    | func fd =>
      obtain ⟨n1, n2, n3, n4, n5, n6, n7, n8, n9, n10, n11, n12, n13, n14, n15⟩ := fd
      have e2 : (some (n1, n2, n3, n4, n5, n6, n7, n8, n15) : FnV) = some (d.name, d.qual, defArgs d.st, .stmts (defBody d.st), defScope d.st, mainGlobals, [], .none, builtinsNs) := e
      simp only [Option.some.injEq, Prod.mk.injEq] at e2
      obtain ⟨h1, h2, h3, h4, h5, h6, h7, h8, h9⟩ := e2
      subst h1 h2 h3 h4 h5 h6 h7 h8 h9
      exact ⟨_, fun_mk (st := d.st) q c2 kp⟩
    | _ => cases c2
/-! ### the Hook -/
abbrev AlZ : Type := Bool × List FnV × List (Option (List (Option (Str × Int))))
def obsZ (cks : List (PySem.W.Frag → Bool)) (fn : List Fx) (ts : List Tab) (K : PySem.W.Frag) : AlZ := ((cks.all fun f => f K) && fn.all fun d => d.ok K, fn.map (fxObs K), ts.map fun t => dicW K (t.1 K))
def valZ (fn : List Fx) (ts : List Tab) (w : World) : AlZ := (true, fn.map Fx.val, ts.map fun t => some (keysIn w.params t.2))
def SaysZ (cks : List (PySem.W.Frag → Bool)) (fn : List Fx) (ts : List Tab) (w : World) (K : PySem.W.Frag) : Prop := obsZ cks fn ts K = valZ fn ts w
def obsZG (n : Nat) (cks : List (PySem.W.Frag → Bool)) (fn : List Fx) (ts : List Tab) (g : Addr → Option Obj) : AlZ := obsZ cks fn ts (frN g n)
def hookZ (n : Nat) (cks : List (PySem.W.Frag → Bool)) (fn : List Fx) (ts : List Tab) : PySem.W.Hook where
  α := AlZ
  obs := fun s => obsZG n cks fn ts s.heap.get?
  val := fun w => valZ fn ts w
  says := fun w h => ∃ K : PySem.W.Frag, K.In h ∧ SaysZ cks fn ts w K
  of := fun _ _ e => ⟨_, frG_in, e⟩
  keeps := fun _ _ _ ⟨K, hK, c⟩ k => ⟨K, PySem.W.Frag.In.keeps hK k, c⟩
theorem obsZG_eq {n : Nat} {cks : List (PySem.W.Frag → Bool)} {fn : List Fx} {ts : List Tab} {g : Addr → Option Obj} {s : Shared} (h : ∀ a, g a = s.heap.get? a) : obsZG n cks fn ts g = (hookZ n cks fn ts).obs s := by
  have e : g = s.heap.get? := funext h
  rw [e] <;> rfl
section
variable {cks : List (PySem.W.Frag → Bool)} {fn : List Fx} {ts : List Tab} {w : World} {K : PySem.W.Frag}
theorem SaysZ.q (c : SaysZ cks fn ts w K) (i : Nat) {f : PySem.W.Frag → Bool} (h : cks[i]? = some f := by rfl) : f K = true := by
  have c1 := (ba (show ((cks.all fun f => f K) && fn.all fun d => d.ok K) = true from congrArg (fun z : AlZ => z.1) c)).1
  exact List.all_eq_true.mp c1 f (List.mem_of_getElem? h)
theorem SaysZ.f (c : SaysZ cks fn ts w K) (i : Nat) {a : PySem.W.Frag → Addr} {n q : Str} {st : Stmt} (h : fn[i]? = some ⟨a, n, q, st⟩ := by rfl) : ∃ fd, Fun K n q st (a K) fd := by
  have c2 := (ba (show ((cks.all fun f => f K) && fn.all fun d => d.ok K) = true from congrArg (fun z : AlZ => z.1) c)).2
  have e : fn.map (fxObs K) = fn.map Fx.val := congrArg (fun z : AlZ => z.2.1) c
  have e2 : (fn.map (fxObs K))[i]? = (fn.map Fx.val)[i]? := by rw [e]
  rw [List.getElem?_map, List.getElem?_map, h] at e2
  exact fx_ok (d := ⟨a, n, q, st⟩) (Option.some.inj e2) (List.all_eq_true.mp c2 _ (List.mem_of_getElem? h))
theorem SaysZ.t (c : SaysZ cks fn ts w K) (i : Nat) {a : PySem.W.Frag → Addr} {ks : List Str} (h : ts[i]? = some (a, ks) := by rfl) : ∃ es n, K.lookup (a K) = some ⟨.type "dict", none, .dict es n, #[]⟩ ∧ PySem.W.KeysLit w.params es.toList ∧ (a K == sysModules) = false := by
  have e : ts.map (fun t => dicW K (t.1 K)) = ts.map fun t => some (keysIn w.params t.2) := congrArg (fun z : AlZ => z.2.2) c
  have e2 : (ts.map fun t => dicW K (t.1 K))[i]? = (ts.map fun t => some (keysIn w.params t.2))[i]? := by rw [e]
  rw [List.getElem?_map, List.getElem?_map, h] at e2
  obtain ⟨es, n, h1, h2, h3⟩ := dicW_ok (Option.some.inj e2)
  exact ⟨es, n, h1, h2, h3⟩
end
/-! ### facts -/
section
variable {K : PySem.W.Frag} {h : Heap} {mg : Str → Option Value}
def nsZ (K : PySem.W.Frag) (a : Addr) (x : Str) (v : Option Value) : Bool := eqO (PySem.W.nsIn K a x) (some v)
theorem zNs {a : Addr} {x : Str} {v : Option Value} (c : nsZ K a x v = true) : PySem.W.nsIn K a x = some v := eqO_ok c
def gloZ (x : Str) (K : PySem.W.Frag) : Bool := (Fa.glo x).ok K
theorem zGlo {x : Str} (c : gloZ x K = true) : PySem.W.nsIn K mainGlobals x = some (some (.ref (ga K x))) := eqO_ok c
theorem zInt (X : K.In h) (G : h.Ns mainGlobals mg) {x : Str} {i : Int} (c : (Fa.int x i).ok K = true) : GV mg x (.int i) := by
  obtain ⟨t, e⟩ := int_ok X G c
  exact ⟨_, e, ⟨_, rfl⟩⟩
theorem zStrG (X : K.In h) (G : h.Ns mainGlobals mg) {x z : Str} (c : (Fa.str x z).ok K = true) : GV mg x (.str z) := by
  obtain ⟨t, e⟩ := str_ok X G c
  exact ⟨_, e, ⟨_, rfl⟩⟩
theorem zFree (X : K.In h) (G : h.Ns mainGlobals mg) {x : Str} (c : (Fa.free x).ok K = true) : mg x = none := free_ok X G c
def strZ (K : PySem.W.Frag) (a : Addr) (k z : Str) : Bool := match PySem.W.nsIn K a k with
  | some (some (.str y _)) => decide (y = z)
  | _ => false
theorem zStr {a : Addr} {k z : Str} (c : strZ K a k z = true) : ∃ t, PySem.W.nsIn K a k = some (some (.str z t)) := by
  unfold strZ at c
  cases e : PySem.W.nsIn K a k with
  | none =>
    rw [e] at c
    cases c
  | some o =>
    rw [e] at c
    cases o with
    | none => cases c
    | some v =>
      cases v with
      | str y t =>
        have ej : y = z := of_decide_eq_true c
        subst ej
        exact ⟨t, rfl⟩
      | _ => cases c
def tupZ (K : PySem.W.Frag) (a : Addr) (vs : List V) : Bool := match K.lookup a with
  | some ⟨.type c, none, .seq its _, _⟩ => decide (c = "tuple") && (decide (its.size ≤ sizeLine) && relAll vs its.toList)
  | _ => false
theorem zTup {a : Addr} {vs : List V} (c : tupZ K a vs = true) : ∃ it n sl, K.lookup a = some ⟨.type "tuple", none, .seq it n, sl⟩ ∧ it.size ≤ sizeLine ∧ Vals vs it.toList := by
  unfold tupZ at c
  cases q : K.lookup a with
  | none =>
    rw [q] at c
    cases c
  | some o =>
    obtain ⟨oc, od, dt, osl⟩ := o
    rw [q] at c
    cases oc with
    | type c' =>
      cases od with
      | none =>
        cases dt with
        | seq its n =>
          obtain ⟨h1, h2⟩ := ba (show (decide (c' = "tuple") && (decide (its.size ≤ sizeLine) && relAll vs its.toList)) = true from c)
          obtain ⟨h3, h4⟩ := ba h2
          have e1 : c' = "tuple" := of_decide_eq_true h1
          subst e1
          exact ⟨its, n, osl, rfl, of_decide_eq_true h3, relAll_ok h4⟩
        | _ => cases c
      | some d => cases dt <;> cases c
    | _ => cases od <;> cases dt <;> cases c
/-- a tuple's item, an object -/
def itA (K : PySem.W.Frag) (a : Addr) (i : Nat) : Addr := match K.lookup a with
  | some ⟨_, _, .seq its _, _⟩ => (match its.toList[i]? with
    | some (.ref b) => b
    | _ => 0)
  | _ => 0
theorem meth1 {C : Addr} {m : Str} {f : Addr} (M : Meth K C m f) : PySem.W.findIn K (.ref C) m = some (some (.ref f)) := M.at_
theorem meth2 {C : Addr} {m : Str} {f : Addr} (M : Meth K C m f) : PySem.W.isFn K (.ref f) = true := M.fn
/-! ### defs -/
section
variable {x q : Str} {st : Stmt} {ps : List Str} {f : Addr}
theorem zS1 (X : K.In h) (G : h.Ns mainGlobals mg) (a : PySem.W.nsIn K mainGlobals x = some (some (.ref f))) (F : ∃ fd, Fun K x x st f fd)
    (hb : ∀ (kV doc pm : Value) (an : Option Addr) (cdv ct : Value) (us : List Value), us.length = ps.length → bindArgs (PySem.W.fnOf x x (defArgs st) (defBody st) (defScope st) .none kV doc pm an cdv ct) ⟨us, []⟩ = pure (ps.zip us)) : St1 K mg x st ps := by
  obtain ⟨fd, F⟩ := F
  exact ⟨f, fd, F, F.binds hb, PySem.W.mg_of X G a⟩
theorem zSF (F : ∃ fd, Fun K q q st f fd)
    (hb : ∀ (kV doc pm : Value) (an : Option Addr) (cdv ct : Value) (us : List Value), us.length = ps.length → bindArgs (PySem.W.fnOf q q (defArgs st) (defBody st) (defScope st) .none kV doc pm an cdv ct) ⟨us, []⟩ = pure (ps.zip us)) : StF K q st ps f := by
  obtain ⟨fd, F⟩ := F
  exact ⟨fd, F, F.binds hb⟩
theorem zSA (X : K.In h) (G : h.Ns mainGlobals mg) (a : PySem.W.nsIn K mainGlobals x = some (some (.ref f))) (F : ∃ fd, Fun K q q st f fd)
    (hb : ∀ (kV doc pm : Value) (an : Option Addr) (cdv ct : Value) (us : List Value), us.length = ps.length → bindArgs (PySem.W.fnOf q q (defArgs st) (defBody st) (defScope st) .none kV doc pm an cdv ct) ⟨us, []⟩ = pure (ps.zip us)) : StA K mg x q st ps := by
  obtain ⟨fd, F⟩ := F
  exact ⟨f, fd, F, F.binds hb, PySem.W.mg_of X G a⟩
theorem zSK {ks : List Str} {n : Nat} (X : K.In h) (G : h.Ns mainGlobals mg) (a : PySem.W.nsIn K mainGlobals x = some (some (.ref f))) (F : ∃ fd, Fun K x x st f fd)
    (hb : ∀ (kV doc pm : Value) (an : Option Addr) (cdv ct : Value) (us ws : List Value), us.length = n → ws.length = ks.length → bindArgs (PySem.W.fnOf x x (defArgs st) (defBody st) (defScope st) .none kV doc pm an cdv ct) ⟨us, ks.zip ws⟩ = pure (ps.zip (us ++ ws))) : StK K mg x st ps n ks := by
  obtain ⟨fd, F⟩ := F
  have F' := F
  obtain ⟨oc, od, kV, doc, pm, an, cdv, ct, osl, rfl, lk, hcd⟩ := F.ex
  exact ⟨f, _, F', ⟨fun s us ws _ h1 h2 => .of_eq (hb kV doc pm an cdv ct us ws h1 h2), fun r rz => r.append rz⟩, PySem.W.mg_of X G a⟩
theorem zSM {C : Addr} {m : Str} (a : PySem.W.findIn K (.ref C) m = some (some (.ref f))) (i : PySem.W.isFn K (.ref f) = true) (F : ∃ fd, Fun K m q st f fd)
    (hb : ∀ (kV doc pm : Value) (an : Option Addr) (cdv ct : Value) (us : List Value), us.length = ps.length → bindArgs (PySem.W.fnOf m q (defArgs st) (defBody st) (defScope st) .none kV doc pm an cdv ct) ⟨us, []⟩ = pure (ps.zip us)) : StM K C m q st ps := by
  obtain ⟨fd, F⟩ := F
  exact ⟨f, fd, F, F.binds hb, a, i, F.kp⟩
theorem zSI {C : Addr} (mx : mg x = some (.ref C)) (M : Mk K C f) (F : ∃ fd, Fun K "__init__" q st f fd)
    (hb : ∀ (kV doc pm : Value) (an : Option Addr) (cdv ct : Value) (us : List Value), us.length = ps.length → bindArgs (PySem.W.fnOf "__init__" q (defArgs st) (defBody st) (defScope st) .none kV doc pm an cdv ct) ⟨us, []⟩ = pure (ps.zip us)) : StI K mg x C q st ps := by
  obtain ⟨fd, F⟩ := F
  exact ⟨f, fd, F, F.binds hb, M, mx⟩
end
end
end Co
namespace Co
open PySem PySem.Spec PyProof.Rows L2
/-- walk_ofG, K given by the head -/
theorem walk_ofZ {l : PySem.W.OpenLaw} {n : Nat} {q : Program} {loose : List Str} {XP : (Str → Option Value) → Heap → Prop} {YP : World → Heap → Prop} {d : DefRec} {x : Str}
    (hn : l.most = some n) (hn2 : n ≤ sizeLine) (hdf : d.params.defaults = [])
    (F : ∀ (w : World) (mg : Str → Option Value) (fa : Addr) (h : Heap), YP w h → h.Ns mainGlobals mg → mg d.name = some (.ref fa) →
      ∃ (K : PySem.W.Frag) (fd : FuncData) (sp : Sp), K.In h ∧ (∀ (s : Shared) (u : Value), BindsTo s fd ⟨[u], []⟩ [(x, u)]) ∧
        (∀ (H : Hp) (a : Addr) (ns : List Int), ns.length ≤ n → Only H → SqL K H a (ns.map V.int) → sp [.ref a] H (fun v _ => v = .bl true) E0) ∧
        ∀ base : Heap, K.In base → base.Ns mainGlobals mg → RunG l.prog w K mg base fa fd x sp) :
    PySem.W.WalkO q loose XP YP l.row.toRowW d [] (fun f vs => PySem.call f vs) := by
  refine Att.attach_call hn hdf fun w _ s1 mg mb fa o pm cd doc a vs ns G Y _ _ _ hmg hobj hints hlen hg => ?_
  obtain ⟨K, fd, sp, KX, hb, hsp, hF⟩ := F w mg fa _ Y G.T.g hmg
  exact law_callG KX G.T.g G.T.b G.T.builtins G.T.nolimit hg hobj hints (Nat.le_trans hlen hn2) hF hb fun H hO hS => hsp H a ns hlen hO hS
end Co
namespace Co
open He HandSHeadRun PySem.W PySem.Calls
section
variable {p q : Program} {cks : List (PySem.W.Frag → Bool)} {fn : List Fx} {ts : List Tab} {n M : Nat} {loose : List PySem.Str} {r : PySem.W.OpenRow} {w : World}
noncomputable def KT (n : Nat) (s : PySem.W.SharedT) : PySem.W.Frag := frN (getT s) n
/-- what holds behind the top -/
noncomputable abbrev lookZ (r : PySem.W.OpenRow) (w : World) (s : PySem.W.SharedT) : Bool := looksF r.prog (boot_heap w.params) s.abs
/-- the run's state, looked at -/
noncomputable def lookEnd {α : Type} (r : PySem.W.OpenRow) (M : Nat) (w : World) (os : OsState) (f : PySem.W.SharedT → α) (v : α) : Prop := (endF (stepQ (denQ tabQ) r.prog w) M r.prog w os).map f = some v
theorem runZ
    (e1 : ∀ os, lookEnd r M w os (fun s => (lookZ r w s, seenQ q loose (PySem.importedModules r.prog.main.body) (fun s => PySem.W.xlAt q [] s && PySem.W.recOk r.toRowW.records s) s.abs)) (true, PySem.W.openGood q loose))
    (e2 : ∀ os, lookEnd r M w os (fun s => cks.all fun f => f (KT n s)) true)
    (e3 : ∀ os, lookEnd r M w os (fun s => (fn.all (fun d => d.ok (KT n s)), fn.map (fxObs (KT n s)), ts.map fun t => dicW (KT n s) (t.1 (KT n s)))) (true, fn.map Fx.val, ts.map fun t => some (keysIn w.params t.2))) :
    RunEq r q (hookZ n cks fn ts) (fun s => obsZG n cks fn ts (getT s)) M loose w := by
  intro os
  have h1 := e1 os
  have h2 := e2 os
  have h3 := e3 os
  unfold lookEnd at h1 h2 h3
  cases q : endF (stepQ (denQ tabQ) r.prog w) M r.prog w os with
  | none =>
    rw [q] at h1
    cases h1
  | some s =>
    rw [q] at h1 h2 h3
    obtain ⟨h11, h12⟩ := Prod.mk.inj (Option.some.inj h1)
    have h2' := Option.some.inj h2
    obtain ⟨h31, h3'⟩ := Prod.mk.inj (Option.some.inj h3)
    obtain ⟨h32, h33⟩ := Prod.mk.inj h3'
    show some (_, _, _) = some (_, _, _)
    refine congrArg some (Prod.ext h11 (Prod.ext h12 (Prod.ext ?_ (Prod.ext h32 h33))))
    show ((cks.all fun f => f (KT n s)) && fn.all fun d => d.ok (KT n s)) = true
    have h2'' : (cks.all fun f => f (KT n s)) = true := h2'
    have h31' : (fn.all fun d => d.ok (KT n s)) = true := h31
    rw [h2'', h31']
    rfl
end
end Co

set_option Elab.async false
set_option linter.all false
set_option maxRecDepth 100000
set_option maxHeartbeats 4000000
/-! an own error: its `__init__` says super().__init__(f"..") and keeps one field, a whole number -/
namespace PySem
namespace OwnE
open PySem.W PySem.Calls PyProof.Rows PySem.HandSPX
/-- the params and the body of `def __init__(self, FLD): super().__init__(f"A{FLD}B"); self.FLD = FLD` -/
structure Ps where
  a1 : Pos
  a2 : Pos
  s1 : Pos
  s2 : Pos
  s3 : Pos
  s4 : Pos
  s5 : Pos
  j0 : Pos
  j1 : Pos
  j2 : Pos
  j3 : Pos
  j4 : Pos
  f1 : Pos
  f2 : Pos
  f3 : Pos
  f4 : Pos
def pk : Ps := ⟨⟨43, 17, 43, 21⟩, ⟨43, 23, 43, 27⟩, ⟨44, 8, 44, 13⟩, ⟨44, 8, 44, 15⟩, ⟨44, 8, 44, 24⟩, ⟨44, 8, 44, 60⟩, ⟨44, 8, 44, 60⟩, ⟨44, 25, 44, 59⟩, ⟨44, 27, 44, 32⟩, ⟨44, 33, 44, 37⟩, ⟨44, 32, 44, 38⟩, ⟨44, 38, 44, 58⟩, ⟨45, 8, 45, 12⟩, ⟨45, 8, 45, 17⟩, ⟨45, 20, 45, 24⟩, ⟨45, 8, 45, 24⟩⟩
def iA (p : Ps) : Arguments := { posonlyargs := [], args := [{ arg := "self", annotation := none, pos := p.a1 }, { arg := "line", annotation := none, pos := p.a2 }], vararg := none, kwonlyargs := [], kw_defaults := [], kwarg := none, defaults := [] }
def iJ (p : Ps) : Expr := .JoinedStr [.Constant (.str "line ") 0 p.j1, .FormattedValue (.Name "line" p.j2) (-1) none p.j3, .Constant (.str " cannot be assembled") 0 p.j4] p.j0
def iB (p : Ps) : List Stmt :=
  [.Expr (.Call (.Attribute (.Call (.Name "super" p.s1) [] [] p.s2) "__init__" p.s3) [iJ p] [] p.s4) p.s5, .Assign [.Attribute (.Name "self" p.f1) "line" p.f2] (.Name "line" p.f3) p.f4]
def iS : Scope := { kind := .function, names := [(PySem.Str.ofString "self", .local), (PySem.Str.ofString "line", .local), (PySem.Str.ofString "__class__", .free), (PySem.Str.ofString "super", .globalImplicit)], isGenerator := false, isCoroutine := false, more := [] }
/-- what the top has written of the class at C and of its `__init__` at fI -/
structure Txt (prog : Program) (K : Frag) (mg : Str → Option Value) (C fI : Addr) : Prop where
  gC : mg "AssemblyError" = some (.ref C)
  cls : ∃ nm q N bs bm sn sub ab col dd k0 k1 k2 k3 k5, K.lookup C = some (excClassObj nm q C N bs bm true sn sub ab col dd k0 k1 k2 k3 k5 "ValueError.__new__") ∧ refsVE bm = true
  sa : findIn K (.ref C) "__setattr__" = some (some (.builtin "object.__setattr__"))
  ga : findIn K (.ref C) "__getattribute__" = some (some (.builtin "BaseException.__getattribute__"))
  gg : findIn K (.ref C) "__getattr__" = some none
  noN : findIn K (.ref C) "line" = some none
  iC : findIn K (.ref C) "__init__" = some (some (.ref fI))
  tC : typeIn K (.ref fI) = some (.type "function")
  kC : keepIn K (.ref C) = true
  exC : subIn K (.ref C) (.type "BaseException") = some true
  exV : subIn K (.ref C) (.type "ValueError") = some true
  tyC : typeIn K (.ref C) = some (.type "type")
  hdC : hasDictIn K C = true
  te : exmOne K (.ref C) (.ref C) = some true
  init : excInitIn K C [.type "ValueError", .type "Exception", .type "BaseException", .type "object"] "ValueError.__new__" = true
  sup : ks_superIn K C C "__init__" = some (some (.builtin "ValueError.__init__"))
  self : mroIn K C (.ref C) = some true
  third : nsIn K cStatics "thirdparty.any" = some none
  noS : mg "super" = none
  top : (prog.main.scope.names.lookup ("super" : Str)).isSome = false
  fn : ∃ (q : Str) (oc : Value) (od : Option Addr) (doc pm : Value) (an : Option Addr) (cda cc : Addr) (ct : Value) (osl : Array (Option Value)) (ccl cl : Value) (cdd cld : Option Addr) (vs : Array Value) (ccs csl : Array (Option Value)) (file : Str) (tf : Tok),
    K.lookup fI = some ⟨oc, od, .func (ksFn "__init__" q (iA pk) (iB pk) iS .none .none doc pm an (.ref cda) ct cc), osl⟩ ∧ codeIn K (.ref cda) q = true ∧
    K.lookup cda = some ⟨ccl, cdd, .fields vs, ccs⟩ ∧ vs[2]? = some (.str file tf) ∧ ((prog.main.file : Str) == file) = true ∧
    K.lookup cc = some ⟨cl, cld, .cell (some (.ref C)), csl⟩
/-- a made error -/
structure Made (h h' : Heap) (e C d : Addr) (v : Value) : Prop where
  keep : ∀ b o, h.get? b = some o → h'.get? b = some o
  new : h.objs.size ≤ e
  obj : ∃ oe vs, h'.get? e = some oe ∧ oe.cls = .ref C ∧ oe.dict = some d ∧ oe.data = .fields vs ∧ vs[1]? = some .none
  dbig : h.objs.size ≤ d
  dne : d ≠ e
  ns : h'.Ns1 d (fun y => if y = "line" then some v else none)
section
variable {prog : Program} {w : World} {A : Around} {R : Result → Shared → Prop} {s : Shared} {K : Frag} {mg : Str → Option Value} {C fI : Addr}
theorem ld_local {M : Model} {env : Env} {x : Str} {pos : Pos} {v : Value} {m : Str → Option Value} {E : Value → Shared → Prop} {s : Shared} {Q : Value → Shared → Prop} (hk : env.scope.kind = .function) (hl : env.kindOf x = some .local) (hn : s.heap.Ns env.locals m) (hv : m x = some v) (hd : (x == ("__debug__" : Str)) = false) (h : Q v s) :
    wpAny M A (eval (.Name x pos) env) Q E s := wpAny_Name (wpAny_loadName_local hk hl hn hv h) hd
/-- the text of the error -/
theorem eval_J {env : Env} {n : Int} {tn : Tok} {m : Str → Option Value} {E : Value → Shared → Prop} {s : Shared} {Q : Value → Shared → Prop} (hk : env.scope.kind = .function) (hl : env.kindOf "line" = some .local) (hn : s.heap.Ns env.locals m) (hv : m "line" = some (.int n tn)) (hd : n.natAbs < 4294967296)
    (q : ∀ y t k, Q (.str y t) { s with toks := k }) : wpAny (model prog w) A (eval (iJ pk) env) Q E s := by
  have z : (Co.dcT n).length ≤ 11 := Co.dcT_len hd
  have e1 : (("line " : Str)).length = 5 := by decide +kernel
  have e2 : ((" cannot be assembled" : Str)).length = 20 := by decide +kernel
  have e0 : Str.empty.length = 0 := rfl
  have sz : sizeLine = 16777216 := sizeLine_eq
  refine wpAny_JoinedStr (wpAny_Constant_str ⟨_, _, rfl, by rw [Co.cat_len, e0, e1, sz]; decide, ?_⟩)
  refine wpAny_FormattedValue_plain (ld_local hk hl hn hv (by decide) (wpAny_formatField_int (Co.log_small hd) ⟨_, _, rfl, ?_, ?_⟩))
  · rw [Co.cat_len, Co.cat_len, e0, e1, sz]
    exact Nat.le_trans (Nat.add_le_add_left z _) (by decide)
  refine wpAny_Constant_str ⟨_, _, rfl, ?_, ?_, q _ _ _⟩
  · rw [Co.cat_len, Co.cat_len, Co.cat_len, e0, e1, e2, sz]
    exact Nat.le_trans (Nat.add_le_add_right (Nat.add_le_add_left z _) _) (by decide)
  · rw [Co.cat_len, Co.cat_len, Co.cat_len, e0, e1, e2, sz]
    exact Nat.le_trans (Nat.add_le_add_right (Nat.add_le_add_left z _) _) (by decide)
/-- what `__init__` leaves of a fresh error at e -/
theorem init_run (T : Txt prog K mg C fI) {base h₀ : Heap} {e t0 : Addr} {n : Int} {tn : Tok} (md : L2.Mod K mg base) (kb : ∀ b o, base.get? b = some o → h₀.get? b = some o) (hroom : A.depth < recursionLimit) (hlim : s.heap.NoLimit)
    (k0 : ∀ b o, h₀.get? b = some o → s.heap.get? b = some o) (hsz : h₀.objs.size ≤ s.heap.objs.size) (he : s.heap.get? e = some (excO C t0)) (hne : h₀.get? e = none) (hd : n.natAbs < 4294967296)
    (hq : ∀ h' tk dx t1, (∀ b o, h₀.get? b = some o → h'.get? b = some o) → h'.get? e = some { cls := .ref C, dict := some dx, data := .fields #[.ref t1, .none, .none, .none, .bool false, .none] } → h₀.objs.size ≤ dx → dx ≠ e →
      h'.Ns1 dx (fun y => if y = "line" then some (.int n tn) else none) → R (.ok (.ret .none)) { s with heap := h', toks := tk }) :
    codeAny (model prog w) A (.call (.ref fI) ⟨[.ref e, .int n tn], []⟩) R s := by
  obtain ⟨q, oc, od, doc, pm, an, cda, cc, ct, osl, ccl, cl, cdd, cld, vs, ccs, csl, file, tf, ho, hcd, hco, hvs, hfile, hcell⟩ := T.fn
  obtain ⟨nm, qn, N, bs, bm, sn, sub, ab, col, dd, k0', k1', k2', k3', k5', hC, hbm⟩ := T.cls
  have hcl : clsIn K C = some { name := nm, bases := bs, mro := .ref C :: bm, ns := N, qualname := qn, hasDict := true, slotNames := sn, subclasses := sub, abstract := ab, collection := col, hasDel := false } := by unfold clsIn; rw [hC] <;> rfl
  have X₀ : K.In h₀ := md.kin.keeps kb
  have X : K.In s.heap := X₀.keeps k0
  refine ks_codeAny_call_defAt (binds := [("self", .ref e), ("line", .int n tn)]) hroom (X _ _ ho) rfl hlim (codeRec_of X hcd) rfl (BindsTo.of_eq (by first | rfl | with_unfolding_all rfl)) (show ∀ x ∈ iS.names, x.2 ≠ NameKind.cell by decide) (by first | decide | (intro x hx; simp only [List.mem_cons, List.not_mem_nil, or_false] at hx; rcases hx with rfl | rfl <;> first | rfl | decide)) (fun h1 hns k1 => ?_)
  have F : Fr h₀ s.heap.objs.size h1 (fun x => List.lookup x [("line", .int n tn), ("self", .ref e)]) := ⟨hns, fun b o z => k1 b o (k0 b o z), hsz⟩
  have elt : e < s.heap.objs.size := Heap.lt_size he
  have N1 : News h₀ s.heap.objs.size h1 [(e, excObj C t0 none .none)] := by
    intro y hy
    obtain rfl := List.mem_singleton.mp hy
    exact ⟨k1 _ _ he, Nat.ne_of_lt elt, hne⟩
  show wpAt _ _ _ (execs (iB pk) (ksEnv q iS s.heap.objs.size fI (.ref cda) cc)) _ _ _
  refine ks_wpAt_execs_cons (ks_wpAt_Expr_any (ks_wpAt_MethodCall ?_))
  obtain ⟨hp, g, d, tk, os⟩ := s
  obtain ⟨mb, hb1, hb2⟩ := md.blt
  have kb1 : ∀ b o, base.get? b = some o → h1.get? b = some o := fun b o z => F.keep b o (kb b o z)
  have X1 : K.In h1 := X₀.keeps F.keep
  have I1 : InstAt h1 e (excO C t0) C none := ⟨k1 _ _ he, rfl, rfl, trivial⟩
  obtain ⟨oC, hC1⟩ : ∃ oC, K.lookup C = some oC ∧ oC.data = .cls { name := nm, bases := bs, mro := .ref C :: bm, ns := N, qualname := qn, hasDict := true, slotNames := sn, subclasses := sub, abstract := ab, collection := col, hasDel := false } := ⟨_, hC, rfl⟩
  refine ks_wpAt_super_base (env := ksEnv q iS hp.objs.size fI (.ref cda) cc) rfl rfl rfl rfl (X1 _ _ ho) rfl (ar := { arg := "self", annotation := none, pos := pk.a1 }) rfl rfl (X1 _ _ hco) rfl hvs hfile T.top ?_
  refine ks_loadName_global rfl rfl (loadGlobal_builtin (env := ksEnv q iS hp.objs.size fI (.ref cda) cc) (md.glob.keeps kb1) T.noS (hb1.keeps kb1) ((hb2 "super" (by decide)).trans (by kernel_rfl)) ⟨rfl, ?_⟩)
  refine wpAny_loadName_free rfl rfl rfl ⟨_, X1 _ _ hcell, rfl⟩ ?_
  refine wpAny_loadName_local rfl rfl F.ns (by rfl) ?_
  refine ks_wpAny_isType_cls (X1 _ _ hC1.1) hC1.2 ⟨rfl, ?_⟩
  refine ks_wpAny_call_super (X1 _ _ hC1.1) hC1.2 I1.at_ I1.cls (fun c z => by cases z) (looks_mroIn X1 T.self) (fun h2 e2 k2 => ?_)
  obtain ⟨F2, N2, l2⟩ := ks_newsPush (s := ⟨h1, g, d, tk, os⟩) F N1 rfl e2 k2
  have I2 : InstAt h2 e (excO C t0) C none := ⟨k2 _ _ I1.at_, rfl, rfl, trivial⟩
  refine kxs_method (x := e) (C := C) (D := C) (s := ⟨h2, g, d, _, os⟩) kxs_ValueError F2 X₀ N2 (List.mem_cons_self ..) I2 T.third T.sup T.exV (by decide) (fun q3 h3 F3 N3 l3 => ?_)
  refine kxs_callWith1 N3 (List.mem_cons_self ..) (spliced_more (eval_J (m := fun x => List.lookup x [("line", .int n tn), ("self", .ref e)]) rfl rfl F3.ns (by rfl) hd (fun y t k => spliced_none ⟨kxs_at N3 (List.mem_cons_self ..), ?_⟩)))
  have q3e : q3 ≠ e := Nat.ne_of_gt (l3 (e, excObj C t0 none .none) (List.mem_cons_of_mem _ (List.mem_cons_self ..)))
  have soe : h1.objs.size ≠ e := Nat.ne_of_gt (Heap.lt_size (k1 _ _ he))
  refine kxs_call (s := ⟨h3, g, d, _, os⟩) F3 X₀ N3 PySem.F.excBase_ValueError T.init (List.mem_cons_self ..) (.tail q3e (.tail soe (.head fun _ z => nomatch z))) (by rw [sizeLine_eq]; exact (by decide : 1 ≤ 16777216)) (fun t4 h4 F4 N4 l4 => ?_)
  have he4 : h4.get? e = some (excO C t4) := (N4 (e, excObj C t4 none .none) (by simp)).1
  have X4 : K.In h4 := X₀.keeps F4.keep
  show wpAt _ _ _ (execs [_] _) _ _ _
  refine wpAt_of_wpAny (wpAny_execs_cons (plainObj_wpAny_Assign_Attribute ?_))
  refine ld_local (m := fun x => List.lookup x [("line", .int n tn), ("self", .ref e)]) rfl rfl F4.ns (by rfl) (by decide) (ld_local (m := fun x => List.lookup x [("line", .int n tn), ("self", .ref e)]) rfl rfl F4.ns (by rfl) (by decide) ?_)
  refine set_plain X4 (ox := excO C t4) (od := none) ⟨he4, rfl, rfl, trivial⟩ T.sa ?_
  refine exc_osa X4 he4 hcl (show refsVE (.ref C :: bm) = true from hbm) rfl T.noN (fun h5 tk5 dx k5 dn dne hx5 hn5 => ?_)
  have hsz4 : h₀.objs.size ≤ h4.objs.size := Nat.le_trans F4.above (Nat.le_of_lt F4.ns.lt)
  exact wpAny_execs_nil (hq h5 tk5 dx t4 (fun b o z => k5 b o (fun y => by rw [y, hne] at z; cases z) (F4.keep b o z)) hx5 (Nat.le_trans hsz4 dn) dne hn5)
theorem made (T : Txt prog K mg C fI) {base : Heap} {n : Int} {tn : Tok} (md : L2.Mod K mg base) (kb : ∀ b o, base.get? b = some o → s.heap.get? b = some o) (hlim : s.heap.NoLimit) (hroom : A.depth + 1 < recursionLimit) (hd : n.natAbs < 4294967296)
    (hq : ∀ h' tk e d, Made s.heap h' e C d (.int n tn) → R (.ok (.ret (.ref e))) { s with heap := h', toks := tk }) :
    codeAny (model prog w) A (.call (.ref C) ⟨[.int n tn], []⟩) R s := by
  obtain ⟨nm, q, N, bs, bm, sn, sub, ab, col, dd, k0, k1, k2, k3, k5, hC, hbm⟩ := T.cls
  have X : K.In s.heap := md.kin.keeps kb
  obtain ⟨hp, g, dr, tk, os⟩ := s
  have k : ∀ b o, (hp.push (kdv_tup [.int n tn])).get? b = some o → ((hp.push (kdv_tup [.int n tn])).push (excO C hp.objs.size)).get? b = some o := fun b o e => Heap.get?_push_of_some _ e
  have kh : ∀ b o, hp.get? b = some o → (hp.push (kdv_tup [.int n tn])).get? b = some o := fun b o e => Heap.get?_push_of_some _ e
  have hget : ((hp.push (kdv_tup [.int n tn])).push (excO C hp.objs.size)).get? (hp.objs.size + 1) = some (excO C hp.objs.size) := by heap_get
  have s0 : (hp.push (kdv_tup [.int n tn])).objs.size = hp.objs.size + 1 := Heap.size_push ..
  have hne : (hp.push (kdv_tup [.int n tn])).get? (hp.objs.size + 1) = none := by
    cases z : (hp.push (kdv_tup [.int n tn])).get? (hp.objs.size + 1) with
    | none => rfl
    | some o => exact absurd (Heap.lt_size z) (by rw [s0]; exact Nat.lt_irrefl _)
  refine call_own F.excBase_ValueError (fun X => refsVE_contains X bm hbm) (X _ _ hC) (looks_findIn X T.iC) (fun self => bind_fn X self T.tC) (by rw [sizeLine_eq]; exact (by decide : 1 ≤ 16777216)) ?_
  refine init_run (s := ⟨(hp.push (kdv_tup [.int n tn])).push (excO C hp.objs.size), g, dr, tk, os⟩) (h₀ := hp.push (kdv_tup [.int n tn])) T md (fun b o z => kh b o (kb b o z)) ?_ ((hlim.keeps kh).keeps k) k (by show _ ≤ ((hp.push _).push _).objs.size; rw [Heap.size_push (h := hp.push _)]; exact Nat.le_succ _) hget hne hd (fun h' tk' dx t1 k' hx dn dne hns => ?_)
  · show A.depth + 1 < recursionLimit
    exact hroom
  · refine ⟨rfl, hq h' tk' (hp.objs.size + 1) dx ⟨fun b o e => k' b o (kh b o e), Nat.le_succ _, ⟨_, _, hx, rfl, rfl, rfl, rfl⟩, ?_, dne, hns⟩⟩
    rw [s0] at dn
    exact Nat.le_trans (Nat.le_succ _) dn
end
end OwnE
end PySem
namespace Co
open PySem PySem.Spec PyProof.Rows L2
theorem relO_one {f : Str} {v : V} {u : Value} (r : RelV v u) (g : Str) : RelO (List.lookup g [(f, v)]) (if g = f then some u else none) := by
  by_cases h : g = f
  · subst h
    rw [if_pos rfl]
    have z : List.lookup g [(g, v)] = some v := by simp [List.lookup]
    rw [z]
    exact r
  · rw [if_neg h]
    have z : (g == f) = false := by simpa using h
    have z2 : List.lookup g [(f, v)] = none := by simp [List.lookup, z]
    rw [z2]
    trivial
section
variable {X : Cx} {C fI : Addr}
/-- AssemblyError(e) -/
def tMkAs (C : Addr) (ta : TA) : L2.St → Hp → XK → Prop := fun σ H Q => ta σ H fun vs H1 => ∃ n : Int, vs = [.int n] ∧ n.natAbs < 4294967296 ∧ ∀ d, H1 d = none → Q (.ref C) (some d) (upd H1 d (.xd [(("line" : Str), .int n)]))
theorem pmk_as {a : Expr} {ta : TA} {p pos : Pos} {k : Nat} (T : OwnE.Txt X.prog X.K X.mg C fI) (hr : Room k X.A) (ha : PA X [a] ta) (hg : Gl X "AssemblyError" := by rfl)
    (he : starEach (a :: []) X.env = (false, eval a X.env) :: starEach [] X.env := by rfl) (hpl : (backTo pos (starEach [] X.env)).any (·.1) = false := by rfl) :
    PMk X (.Call (.Name "AssemblyError" p) [a] [] pos) (tMkAs C ta) := by
  intro pins s σ H Q I h
  refine wpAny_Call_Name_kw (ld_glob I hg T.gC ?_)
  refine PySem.W.callWith_K (h₀ := X.base) I.ok.mod.kin T.kC (thn (ha.run pos pins s σ H _ I h) fun us s1 hh => ?_) he hpl
  obtain ⟨vs, H1, I1, r1, n, ev, hn, q1⟩ := hh
  subst ev
  refine ⟨I1.kIn, ?_⟩
  cases r1 with
  | cons rv rn =>
    rename_i v' us'
    cases rn
    obtain ⟨tn, rfl⟩ := rv
    show wpAny _ _ (call (.ref C) [.int n tn]) _ _ _
    have hlim := I1.nolimit
    have hbk := I1.bk
    obtain ⟨hp, g, dr, tk, os⟩ := s1
    refine wpAny_call (OwnE.made T I1.ok.mod hbk hlim (by have := hr.dp; omega) hn fun h' tk' e d M => ?_)
    show MkP X pins σ Q (.ref e) ⟨h', g, dr, tk', os⟩
    obtain ⟨oe, fv, hoe, hc, hd, hdat, h1⟩ := M.obj
    have hns := M.ns
    obtain ⟨G', g1, g2⟩ := restrict h' fun b => decide (b ≠ e)
    have gk : ∀ b, b ≠ e → G'.get? b = h'.get? b := fun b hb => g1 b (decide_eq_true hb)
    have ge : G'.get? e = none := g2 e (by simp)
    have old : ∀ b o, hp.get? b = some o → G'.get? b = some o := fun b o q => (gk b (Nat.ne_of_lt (Nat.lt_of_lt_of_le (Heap.lt_size q) M.new))).trans (M.keep b o q)
    have ob : ObjOk X.prog X.w (upd H1 d (.xd [(("line" : Str), .int n)])) G' d (.xd [(("line" : Str), .int n)]) :=
      ⟨_, hns.at (fun o q => (gk d M.dne).trans q), fun f => relO_one (v := .int n) (u := .int n tn) ⟨tn, rfl⟩ f⟩
    have J : Inv X pins σ (upd H1 d (.xd [(("line" : Str), .int n)])) ⟨G', g, dr, tk', os⟩ := I1.laid (t' := tk') old M.dbig ob
    refine ⟨e, oe, fv, ⟨G', g, dr, tk', os⟩, _, .ref C, some d, rfl, J, fun b o q => ?_, ge, hoe, ⟨hc, hd⟩, hdat, h1, ?_, rfl, I1.bare, raises_own T.exC T.tyC, q1 d (I1.hok.fresh M.dbig)⟩
    · by_cases hb : b = e
      · have q' : G'.get? b = some o := q
        rw [hb, ge] at q'; cases q'
      · exact (gk b hb).symm.trans q
    · rw [upd_ne (Ne.symm M.dne)]
      exact I1.hok.fresh M.new
/-- raise AssemblyError(e) -/
def tRaiseAs (C : Addr) (W : WX) (ta : TA) : TS := fun _ σ H => tMkAs C ta σ H fun cls d H' => W cls d σ H'
theorem ps_raiseAs {a : Expr} {ta : TA} {W : WX} {p pos pos2 : Pos} {k : Nat} (hc : X.calm = true) (T : OwnE.Txt X.prog X.K X.mg C fI) (hr : Room k X.A) (tk : Takes X W) (ha : PA X [a] ta) (hg : Gl X "AssemblyError" := by rfl)
    (he : starEach (a :: []) X.env = (false, eval a X.env) :: starEach [] X.env := by rfl) (hpl : (backTo pos (starEach [] X.env)).any (·.1) = false := by rfl) :
    PS X (.Raise (some (.Call (.Name "AssemblyError" p) [a] [] pos)) none pos2) (tRaiseAs C W ta) := ps_raise hc tk (pmk_as T hr ha hg he hpl)
/-- error.line, error the exception that the suite holds (at a; its class cls, its dict d) -/
def tLineAs (C : Addr) (a : Addr) (cls : Value) (d : Option Addr) (te : TE) : TE := fun σ H Q => te σ H fun x H1 => x = .ref a ∧ cls = .ref C ∧ ∃ (dd : Addr) (v : V), d = some dd ∧ H1 dd = some (.xd [(("line" : Str), v)]) ∧ Q v H1
theorem pe_lineAs {a : Addr} {oe : Obj} {cls : Value} {d : Option Addr} {pn : List (Addr × Obj)} {e : Expr} {te : TE} {pos : Pos} (T : OwnE.Txt X.prog X.K X.mg C fI) (hz : Zc cls d oe) (hf : ∃ vs, oe.data = .fields vs) (he : PE (X.suite a ((a, oe) :: pn)) e te)
    (hb : attributeBase e "line" X.env (eval e X.env) = eval e X.env := by rfl) :
    PE (X.suite a ((a, oe) :: pn)) (.Attribute e "line" pos) (tLineAs C a cls d te) := by
  refine ⟨fun pins s σ H Q I h => ?_⟩
  refine attr_of hb (thn (he.run pins s σ H _ I h) fun u s1 hh => ?_)
  obtain ⟨x, H1, I1, rx, ex, ec, dd, v, ed, ea, q⟩ := hh
  subst ex
  obtain rfl : u = Value.ref a := rx
  subst ec
  subst ed
  obtain ⟨ha, _⟩ := I1.pin (a, oe) (List.mem_append_left _ List.mem_cons_self)
  obtain ⟨vs, hd⟩ := hf
  have hx : ObjOk X.prog X.w H1 s1.heap dd (.xd [(("line" : Str), v)]) := I1.hok dd _ ea
  obtain ⟨mA, hns, hr⟩ := hx
  obtain ⟨od, ho, hl⟩ := lookIn_ns hns
  have l : List.lookup ("line" : Str) [(("line" : Str), v)] = some v := by simp [List.lookup]
  obtain ⟨u, hu, ru⟩ := RelO.some_of (v := v) (o := mA "line") (by rw [← l]; exact hr "line")
  have J : PySem.W.InstAt s1.heap a oe C (some od) := ⟨ha, hz.1, by unfold PySem.W.notCls; rw [hd] <;> rfl, by rw [hz.2]; exact ho⟩
  exact HandSPX.exc_get I1.kIn J T.ga T.gg T.exC (PySem.W.findObj_own T.hdC T.noN rfl (by rw [hl, hu])) (handed_of ru) ⟨v, H1, I1.tok _, ru, q⟩
end
end Co

set_option Elab.async false
set_option linter.all false
set_option maxRecDepth 100000
set_option maxHeartbeats 4000000
namespace Co
open PySem PySem.Spec PyProof.Rows L2 TL
/-! ### texts as lists of signs: blanks at the ends, first and last signs, numbers -/
abbrev SS (l : List Nat) : Str := ⟨l.toArray⟩
def blk (c : Nat) : Bool := c == 32
def trimB (l : List Nat) : List Nat := (l.reverse.dropWhile blk).reverse
def trim (l : List Nat) : List Nat := trimB (l.dropWhile blk)
theorem drop_tw (p : Nat → Bool) : ∀ l : List Nat, l.drop (l.takeWhile p).length = l.dropWhile p
  | [] => rfl
  | c :: r => by
    rw [List.takeWhile_cons, List.dropWhile_cons]
    split
    · exact drop_tw p r
    · rfl
theorem take_tw (p : Nat → Bool) (l : List Nat) : l.take (l.length - (l.reverse.takeWhile p).length) = (l.reverse.dropWhile p).reverse := by
  rw [← drop_tw p l.reverse, List.drop_reverse, List.reverse_reverse]
theorem has_blk (c : Nat) : ((" " : Str)).cps.contains c = blk c := by
  have e : ((" " : Str)).cps = #[32] := by decide +kernel
  rw [e]
  unfold blk
  simp [eq_comm]
  rfl
theorem tl_strip (x : Str) : tl (Txt.stripChars x (" " : Str)) = trim (tl x) := by
  have hf : (((" " : Str)).cps.contains : Nat → Bool) = blk := funext has_blk
  have e : ∀ l : List Nat, ((l.drop (l.takeWhile blk).length).take (l.length - ((l.drop (l.takeWhile blk).length).reverse.takeWhile blk).length - (l.takeWhile blk).length)) = trim l := fun l => by
    unfold trim trimB
    rw [← drop_tw blk l, ← take_tw, List.length_drop]
    congr 1
    omega
  have e2 : tl (stripped blk true true x) = trim (tl x) := by
    unfold stripped
    rw [tl_strSub, ← e (tl x)]
    unfold stripLo stripHi
    rw [if_pos rfl, if_pos rfl, len_tl]
  unfold Txt.stripChars Txt.stripBy
  rw [hf]
  split
  · rename_i h
    unfold stripSame at h
    simp only [Bool.and_eq_true, beq_iff_eq] at h
    rw [← e2]
    unfold stripped
    rw [h.2, h.1, tl_strSub, List.drop_zero, len_tl, Nat.sub_zero, List.take_length]
  · exact e2
theorem dw_all {l m : List Nat} (h : ∀ c ∈ l, c = 32) : (l ++ m).dropWhile blk = m.dropWhile blk := by
  induction l with
  | nil => rfl
  | cons c r ih =>
    have hc : blk c = true := beq_iff_eq.mpr (h c List.mem_cons_self)
    rw [List.cons_append, List.dropWhile_cons, if_pos hc]
    exact ih fun d hd => h d (List.mem_cons_of_mem _ hd)
theorem dw_no {m : List Nat} (h : ∀ c, m.head? = some c → c ≠ 32) : m.dropWhile blk = m := by
  cases m with
  | nil => rfl
  | cons c r =>
    have hc : ¬ blk c = true := fun z => h c rfl (beq_iff_eq.mp z)
    rw [List.dropWhile_cons, if_neg hc]
theorem head_app {m b : List Nat} (hm : m ≠ []) : (m ++ b).head? = m.head? := by
  cases m with
  | nil => exact absurd rfl hm
  | cons c r => rfl
theorem trim_of {a m b : List Nat} (ha : ∀ c ∈ a, c = 32) (hb : ∀ c ∈ b, c = 32) (hm : m ≠ []) (h1 : ∀ c, m.head? = some c → c ≠ 32) (h2 : ∀ c, m.getLast? = some c → c ≠ 32) : trim (a ++ (m ++ b)) = m := by
  unfold trim trimB
  have e1 : (m ++ b).dropWhile blk = m ++ b := dw_no (fun c h => h1 c (by rw [head_app hm] at h; exact h))
  rw [dw_all ha, e1, List.reverse_append, dw_all (fun c hc => hb c (List.mem_reverse.mp hc)), dw_no (fun c h => h2 c (by rw [← List.head?_reverse]; exact h)), List.reverse_reverse]
theorem starts1 (x : Str) (c : Nat) : Txt.startswith x (SS [c]) = decide ((tl x).head? = some c) := by
  unfold Txt.startswith Builtin.Str.subAt
  obtain ⟨⟨l⟩⟩ := x
  cases l with
  | nil => rfl
  | cons d r =>
    have e : (decide (0 + (SS [c]).length ≤ (Str.mk ⟨d :: r⟩).length)) = true := decide_eq_true (by show 0 + 1 ≤ (d :: r).length; simp)
    rw [e, Bool.true_and]
    show (((⟨d :: r⟩ : Array Nat).extract 0 (0 + 1)) == #[c]) = decide ((d :: r).head? = some c)
    have : ((⟨d :: r⟩ : Array Nat).extract 0 (0 + 1)) = #[d] := by
      apply Array.ext'
      simp
    rw [this]
    by_cases h : d = c
    · subst h; simp
    · have h2 : ¬ (d :: r).head? = some c := fun z => h (Option.some.inj z)
      rw [decide_eq_false h2]
      simp [h]
theorem ends1 (x : Str) (c : Nat) : Txt.endswith x (SS [c]) = decide ((tl x).getLast? = some c) := by
  unfold Txt.endswith Builtin.Str.subAt
  obtain ⟨⟨l⟩⟩ := x
  rcases List.eq_nil_or_concat l with rfl | ⟨r, d, rfl⟩
  · rfl
  · have hl : (Str.mk ⟨r.concat d⟩).length = r.length + 1 := by show (r.concat d).length = _; simp
    have e : (decide (0 + (SS [c]).length ≤ (Str.mk ⟨r.concat d⟩).length)) = true := decide_eq_true (by rw [hl]; show 0 + 1 ≤ _; omega)
    rw [e, Bool.true_and, hl]
    show (((⟨r.concat d⟩ : Array Nat).extract (r.length + 1 - 1) (r.length + 1 - 1 + 1)) == #[c]) = decide ((r.concat d).getLast? = some c)
    have : ((⟨r.concat d⟩ : Array Nat).extract (r.length + 1 - 1) (r.length + 1 - 1 + 1)) = #[d] := by
      apply Array.ext'
      simp
    rw [this]
    by_cases h : d = c
    · subst h; simp
    · have h2 : ¬ (r.concat d).getLast? = some c := fun z => h (by simpa using z)
      rw [decide_eq_false h2]
      simp [h]
theorem tl_cut1 (x : Str) : tl (cutS x (some 1) none) = (tl x).drop 1 := by
  unfold cutS HT.sIx
  show ((tl x).drop (min 1 x.length)).take (x.length - min 1 x.length) = _
  rw [len_tl]
  cases tl x with
  | nil => rfl
  | cons c r => simp
theorem tl_cutL (x : Str) : tl (cutS x none (some (-1))) = (tl x).dropLast := by
  unfold cutS HT.sIx
  show ((tl x).drop 0).take ((-1 + (x.length : Int)).toNat - 0) = _
  rw [len_tl, List.drop_zero, List.dropLast_eq_take]
  congr 1
  omega
/-! ### numbers as texts -/
theorem e_minus : ("-" : Str) = SS [45] := by decide +kernel
def digA (t : Str) : Str := if Txt.startswith t ("-" : Str) = true then cutS t (some 1) none else t
def isDg (c : Nat) : Bool := decide (c ∈ ("0123456789" : Str).cps.toList)
theorem isDg_iff (c : Nat) : isDg c = true ↔ 48 ≤ c ∧ c ≤ 57 := by
  have e : ("0123456789" : Str).cps.toList = [48, 49, 50, 51, 52, 53, 54, 55, 56, 57] := by decide +kernel
  unfold isDg
  rw [decide_eq_true_iff, e]
  simp only [List.mem_cons, List.not_mem_nil, or_false]
  omega
def numT (t : Str) : Option Int :=
  if digA t = ("" : Str) ∨ 11 < t.length ∨ ((tl (digA t)).all isDg) = false then none
  else match PySem.intText? t with
    | some n => if dcT n = t then some n else none
    | none => none
theorem val_lt : ∀ (cs : List Nat) (a : Nat), PySem.NumText.AllDigits cs → cs.foldl (fun acc c => acc * 10 + (c - 48)) a < (a + 1) * 10 ^ cs.length
  | [], a, _ => by simp
  | c :: r, a, h => by
    have hc := h.head
    have ih := val_lt r (a * 10 + (c - 48)) h.tail
    rw [List.foldl_cons, List.length_cons, Nat.pow_succ]
    refine Nat.lt_of_lt_of_le ih ?_
    have e : (a + 1) * (10 ^ r.length * 10) = ((a + 1) * 10) * 10 ^ r.length := by rw [Nat.mul_comm (10 ^ r.length) 10, Nat.mul_assoc]
    rw [e]
    exact Nat.mul_le_mul_right _ (by omega)
theorem val_small {cs : List Nat} (h : PySem.NumText.AllDigits cs) (hl : cs.length ≤ 11) : PySem.NumText.digitsVal cs < 100000000000 := by
  have := val_lt cs 0 h
  have p : 10 ^ cs.length ≤ 10 ^ 11 := Nat.pow_le_pow_right (by decide) hl
  show cs.foldl _ 0 < _
  omega
theorem log_n {m : Nat} (h : m < 100000000000) : m.log2 < 1920 := by
  rcases Nat.eq_zero_or_pos m with rfl | e
  · decide
  · exact Nat.lt_trans ((Nat.log2_lt (by omega)).mpr (show m < 2 ^ 37 by omega)) (by decide)
theorem tl_e {x : Str} (h : x ≠ ("" : Str)) : tl x ≠ [] := fun z => h (ext_tl (by rw [z]; rfl))
theorem all_dg {l : List Nat} (h : l.all isDg = true) : PySem.NumText.AllDigits l := fun c hc => (isDg_iff c).mp (List.all_eq_true.mp h c hc)
/-- what such a text is read as -/
theorem num_ok {t : Str} (h1 : digA t ≠ ("" : Str)) (h2 : t.length ≤ 11) (h3 : (tl (digA t)).all isDg = true) : ∃ n, PySem.intText? t = some n ∧ n.natAbs.log2 < 1920 := by
  unfold digA at h1 h3
  have hl : (tl t).length ≤ 11 := by rw [← len_tl]; exact h2
  rw [e_minus, starts1] at h1 h3
  by_cases hs : (tl t).head? = some 45
  · rw [if_pos (decide_eq_true hs)] at h1 h3
    rw [tl_cut1] at h3
    have n1 := tl_e h1
    rw [tl_cut1] at n1
    obtain ⟨cs, e⟩ : ∃ cs, tl t = 45 :: cs := by
      cases z : tl t with
      | nil => rw [z] at hs; cases hs
      | cons d r => rw [z] at hs; cases hs; exact ⟨r, rfl⟩
    rw [e] at h3 n1 hl
    refine ⟨_, PySem.intText_neg e (all_dg h3) n1 (by rw [len_tl, e]; exact Nat.le_trans hl (by decide)), ?_⟩
    rw [Int.natAbs_neg, Int.natAbs_natCast]
    exact log_n (val_small (all_dg h3) (by have := hl; rw [List.length_cons] at this; omega))
  · rw [if_neg (by rw [decide_eq_false hs]; decide)] at h1 h3
    refine ⟨_, PySem.intText_digits (all_dg h3) (tl_e h1) (by rw [len_tl]; exact Nat.le_trans hl (by decide)), ?_⟩
    rw [Int.natAbs_natCast]
    exact log_n (val_small (all_dg h3) hl)
theorem tl_dcN (m : Nat) : tl (dcT (m : Int)) = numL m := tl_num m
theorem tl_dcM (m : Nat) : tl (dcT (-((m + 1 : Nat) : Int))) = 45 :: numL (m + 1) := by
  have e : toString (-((m + 1 : Nat) : Int)) = "-" ++ toString ((m + 1 : Nat) : Int) := rfl
  show tl (Str.ofString (toString (-((m + 1 : Nat) : Int)))) = _
  rw [e, tl_ofString, String.toList_append, List.map_append, ← tl_ofString (toString ((m + 1 : Nat) : Int)), tl_num]
  rfl
theorem dc_head (m : Nat) : (numL m).head? ≠ some 45 := fun h => by
  cases z : numL m with
  | nil => exact numL_ne m z
  | cons c r =>
    rw [z] at h
    cases h
    have := numL_digits m 45 (by rw [z]; exact List.mem_cons_self)
    omega
theorem dg_num (m : Nat) : (numL m).all isDg = true := List.all_eq_true.mpr fun c hc => (isDg_iff c).mpr (numL_digits m c hc)
theorem ne_num {x : Str} {m : Nat} (h : tl x = numL m) : x ≠ ("" : Str) := fun z => numL_ne m (by rw [← h, z]; rfl)
theorem numT_dc {n : Int} (h : n.natAbs < 4294967296) : numT (dcT n) = some n := by
  have hl := dcT_len h
  rcases Int.eq_nat_or_neg n with ⟨m, rfl | rfl⟩
  · have e := tl_dcN m
    have ed : digA (dcT (m : Int)) = dcT (m : Int) := by
      unfold digA
      rw [e_minus, starts1, e, decide_eq_false (dc_head m)]
      rfl
    unfold numT
    rw [ed, if_neg (by
      rintro (z | z | z)
      · exact ne_num e z
      · omega
      · rw [e, dg_num] at z; cases z)]
    have ei := PySem.intText_digits (x := dcT (m : Int)) (by rw [show (dcT (m : Int)).cps.toList = numL m from e]; exact numL_digits m) (by rw [show (dcT (m : Int)).cps.toList = numL m from e]; exact numL_ne m) (by omega)
    rw [show (dcT (m : Int)).cps.toList = numL m from e, numL_val] at ei
    rw [ei]
    exact if_pos rfl
  · cases m with
    | zero => show numT (dcT 0) = some 0; decide +kernel
    | succ m =>
    have e := tl_dcM m
    have ec : tl (cutS (dcT (-((m + 1 : Nat) : Int))) (some 1) none) = numL (m + 1) := by rw [tl_cut1, e]; rfl
    have ed : digA (dcT (-((m + 1 : Nat) : Int))) = cutS (dcT (-((m + 1 : Nat) : Int))) (some 1) none := by
      unfold digA
      rw [e_minus, starts1, e]
      rfl
    unfold numT
    rw [ed, ec, if_neg (by
      rintro (z | z | z)
      · exact ne_num ec z
      · omega
      · rw [dg_num] at z; cases z)]
    have ei := PySem.intText_neg (x := dcT (-((m + 1 : Nat) : Int))) e (numL_digits (m + 1)) (numL_ne (m + 1)) (by omega)
    rw [numL_val] at ei
    rw [ei]
    exact if_pos rfl
/-! ### rules of texts, by name -/
theorem w_isiN {K : PySem.W.Frag} {H : Hp} {Q : VK} (q : Q (.bl false) H) : rIsi K [.non, .ty "int"] H Q := ⟨.non, .ty "int", .type "NoneType", .type "int", false, rfl, .ty _, .base .non, kit_ty (by decide +kernel), q⟩
theorem w_isiS {K : PySem.W.Frag} {z : Str} {H : Hp} {Q : VK} (q : Q (.bl true) H) : rIsi K [.str z, .ty "str"] H Q := ⟨.str z, .ty "str", .type "str", .type "str", true, rfl, .ty _, .base (.str _), kit_ty (by decide +kernel), q⟩
def rStripQ : V → List V → Hp → VK → Prop := fun x xs H Q => ∃ a b, x = .str a ∧ xs = [.str b] ∧ a.length ≤ sizeLine ∧ Q (.str (Txt.stripChars a b)) H
theorem mt_stripQ {X : Cx} : MtR X "str.strip" rStripQ := mt_stripChars
theorem w_stripQ {a b : Str} {H : Hp} {Q : VK} (h : a.length ≤ sizeLine) (q : Q (.str (Txt.stripChars a b)) H) : rStripQ (.str a) [.str b] H Q := ⟨a, b, rfl, rfl, h, q⟩
def rSplitQ : V → List V → Hp → VK → Prop := fun x xs H Q => ∃ a b, x = .str a ∧ xs = [.str b] ∧ (b.length == 0) = false ∧ a.length + 2 ≤ sizeLine ∧ rNewStrs (Txt.split a b) H Q
theorem mt_splitQ {X : Cx} : MtR X "str.split" rSplitQ := mt_split
theorem w_splitQ {a b : Str} {H : Hp} {Q : VK} (hb : (b.length == 0) = false) (h : a.length + 2 ≤ sizeLine) (q : ∀ p H', H p = none → Same H H' → H' p = some (.lst ((Txt.split a b).map V.str)) → Q (.ref p) H') : rSplitQ (.str a) [.str b] H Q :=
  ⟨a, b, rfl, rfl, hb, h, fun p np => q p _ np (Same.new np) upd_same⟩
def rPartQ : V → List V → Hp → VK → Prop := fun x xs H Q => ∃ a b, x = .str a ∧ xs = [.str b] ∧ (b.length == 0) = false ∧ a.length ≤ sizeLine ∧ ∀ p, H p = none → Q (.ref p) (upd H p (.tup [.str (Txt.partition a b).1, .str (Txt.partition a b).2.1, .str (Txt.partition a b).2.2]))
theorem mt_partQ {X : Cx} : MtR X "str.partition" rPartQ := mt_partition
theorem w_partQ {a b : Str} {H : Hp} {Q : VK} (hb : (b.length == 0) = false) (h : a.length ≤ sizeLine) (q : ∀ p H', H p = none → Same H H' → H' p = some (.tup [.str (Txt.partition a b).1, .str (Txt.partition a b).2.1, .str (Txt.partition a b).2.2]) → Q (.ref p) H') : rPartQ (.str a) [.str b] H Q :=
  ⟨a, b, rfl, rfl, hb, h, fun p np => q p _ np (Same.new np) upd_same⟩
def rEndsQ : V → List V → Hp → VK → Prop := fun x xs H Q => ∃ a b, x = .str a ∧ xs = [.str b] ∧ Q (.bl (Txt.endswith a b)) H
theorem mt_endsQ {X : Cx} : MtR X "str.endswith" rEndsQ := mt_endswith
theorem w_endsQ {a b : Str} {H : Hp} {Q : VK} (q : Q (.bl (Txt.endswith a b)) H) : rEndsQ (.str a) [.str b] H Q := ⟨a, b, rfl, rfl, q⟩
def rIntS : List V → Hp → VK → Prop := fun xs H Q => ∃ a n, xs = [.str a] ∧ PySem.intText? a = some n ∧ a.length ≤ 640 ∧ Q (.int n) H
theorem call_intSQ {X : Cx} : CallR X (.type "int") rIntS := call_int_str
theorem w_intS {a : Str} {n : Int} {H : Hp} {Q : VK} (h : PySem.intText? a = some n) (hl : a.length ≤ 640) (q : Q (.int n) H) : rIntS [.str a] H Q := ⟨a, n, rfl, h, hl, q⟩
def rLenSQ : List V → Hp → VK → Prop := fun xs H Q => ∃ z, xs = [.str z] ∧ z.length ≤ sizeLine ∧ Q (.int z.length) H
theorem call_lenSQ {X : Cx} : CallR X (.builtin "len") rLenSQ := call_len_str
theorem w_lenSQ {a : Str} {H : Hp} {Q : VK} (hl : a.length ≤ sizeLine) (q : Q (.int a.length) H) : rLenSQ [.str a] H Q := ⟨a, rfl, hl, q⟩
def rMulSQ : R2 := fun x y H Q => ∃ a n, x = .str a ∧ y = .int n ∧ MulOk a n ∧ Q (.str (Txt.mul a n)) H
theorem op_mulSQ {X : Cx} : OpR X (binaryOp .Mult) rMulSQ := by
  intro pins s σ H x y v u Q I rx ry h
  obtain ⟨a, n, rfl, rfl, hm, q⟩ := h
  obtain ⟨t, rfl⟩ := rx
  obtain ⟨t', rfl⟩ := ry
  exact SB.mul hm fun t' k => ⟨.str (Txt.mul a n), H, I.tok _, ⟨t', rfl⟩, q⟩
theorem w_mulSQ {a : Str} {n : Int} {H : Hp} {Q : VK} (h : MulOk a n) (q : Q (.str (Txt.mul a n)) H) : rMulSQ (.str a) (.int n) H Q := ⟨a, n, rfl, rfl, h, q⟩
theorem w_slS {z : Str} {lo hi : Option Int} {H : Hp} {Q : VK} (h : z.length ≤ sizeLine) (q : Q (.str (cutS z lo hi)) H) : rSlS (.str z) lo hi H Q := ⟨z, rfl, h, q⟩
/-! ### zip of a text and a list -/
theorem pl_is {h : Heap} {b : Addr} {its : Array Value} (t : PlainL h b its) : h.IsList b its := by
  obtain ⟨o, n, e, h1, h2, h3⟩ := t
  exact ⟨o, e, h1, n, h3⟩
def ItzSL (K : PySem.W.Frag) (x : Str) (b : Addr) : It :=
  ⟨fun i H => ∃ (ys : List V), SqL K H b ys ∧ i < x.cps.size ∧ i < ys.length,
    fun i H v H' => ∃ T c y, v = .ref T ∧ H T = none ∧ H' = upd H T (.tup [.str ⟨#[c]⟩, y]) ∧ x.cps[i]? = some c ∧ ∀ ys, SqL K H b ys → ys[i]? = some y,
    fun i H => ∃ ys : List V, SqL K H b ys ∧ i ≤ x.cps.size ∧ i ≤ ys.length ∧ (i = x.cps.size ∨ i = ys.length)⟩
/-- the five objects of such a zip, as they stand before its turn `i` -/
structure ZLt (x : Str) (tk0 : Tok) (b z TI TO i1 i2 : Addr) (i : Nat) (h : Heap) : Prop where
  zip : IsZip h z TI TO .none
  ins : IsTupOf2 h TI (.ref i1) (.ref i2)
  outs : ∃ x y, IsTupOf2 h TO x y
  txt : h.IsStrIter i1 (strIterType x) x tk0 i
  tup : h.IsListIter i2 b i
theorem ZLt.small {x : Str} {tk0 : Tok} {b z TI TO i1 i2 : Addr} {i : Nat} {h : Heap} (q : ZLt x tk0 b z TI TO i1 i2 i h) : ∀ c, c ∈ [z, TI, TO, i1, i2] → c < h.objs.size := by
  obtain ⟨_, _, q3⟩ := q.outs
  obtain ⟨_, q4, _⟩ := q.txt
  obtain ⟨_, q5, _⟩ := q.tup
  exact all5 (Heap.lt_size q.zip) (Heap.lt_size q.ins) (Heap.lt_size q3) (Heap.lt_size q4) (Heap.lt_size q5)
theorem turn_zipSL {P : Program} {w : World} {K : PySem.W.Frag} {elts : List Expr} {kk : Nat} {tpos : Pos} {x : Str} {tk0 : Tok} {b z TI TO i1 i2 : Addr} (D : ZipApart z TI TO i1 i2 b b) :
    Turn P w K (.Tuple elts kk tpos) (ItzSL K x b) [z, TI, TO, i1, i2] z (ZLt x tk0 b z TI TO i1 i2) where
  mem := List.mem_cons_self
  obj := fun i h q => by
    obtain ⟨_, _, q3⟩ := q.outs
    obtain ⟨_, q4, _, d4⟩ := q.txt
    obtain ⟨_, q5, _, d5⟩ := q.tup
    refine all5 ⟨_, q.zip, ?_⟩ ⟨_, q.ins, ?_⟩ ⟨_, q3, ?_⟩ ⟨_, q4, ?_⟩ ⟨_, q5, ?_⟩ <;> intro v e <;> simp_all
  keep := fun i h h' q k => by
    have k' : ∀ c, c ∈ [z, TI, TO, i1, i2] → ∀ o, h.get? c = some o → h'.get? c = some o := k
    obtain ⟨u, v, q3⟩ := q.outs
    obtain ⟨o4, q4, r4⟩ := q.txt
    exact ⟨k' _ (by simp) _ q.zip, k' _ (by simp) _ q.ins, ⟨u, v, k' _ (by simp) _ q3⟩, ⟨o4, k' _ (by simp) _ q4, r4⟩, q.tup.at (k' _ (by simp))⟩
  item := by
    rintro X rfl rfl rfl hc i pins s σ H E I hf q ⟨ys, hy, l1, l2⟩
    obtain ⟨vs, rv, tv, _⟩ := I.list hy
    obtain ⟨_, _, q3⟩ := q.outs
    have hd : X.A.in1.handled = none := I.ok.hd hc
    obtain ⟨u, hu, ru⟩ := rv.get (List.getElem?_eq_getElem l2)
    have lv : i < vs.toArray.size := by
      have := (List.getElem?_eq_some_iff.mp hu).1
      simpa using this
    refine wpAny_pyNext_zipD2_item (sep_of D) (Draws.text hd i1 x tk0) (Draws.list hd i2 b D.l1i2 vs.toArray) q.zip q.ins q3 q.txt ⟨q.tup, pl_is tv⟩ l1 lv fun a1 a2 h1 t1 P1 P2 z1 o1 f1 f2 new _ kp => ?_
    obtain ⟨c, tc, hx, rfl⟩ := P1
    obtain rfl : u = a2 := by
      have : vs[i]? = some a2 := by simpa using P2
      simpa [hu] using this
    refine ⟨_, rfl, wpAny_letOwnedTupleGo_zip (s := { s with heap := h1, toks := t1 }) z1 fun h2 z2 sb => ?_⟩
    have sm := q.small
    have kp2 : ∀ a o, a ∉ [z, TI, TO, i1, i2] → s.heap.get? a = some o → h2.get? a = some o := fun a o na e => by
      obtain ⟨n1, _, n3, n4, n5⟩ := no5 na
      by_cases hb : a = TI
      · exact absurd hb (no5 na).2.1
      · exact (sb.2 a n1).trans (kp a o n1 n3 n4 n5 e)
    have nt : h2.get? s.heap.objs.size = some { cls := .type "tuple", data := .seq #[.str ⟨#[c]⟩ tc, u] } :=
      (sb.2 _ (Nat.ne_of_gt (sm z (by simp)))).trans new
    have pair : ObjOk X.prog X.w (upd H s.heap.objs.size (.tup [.str ⟨#[c]⟩, ys[i]])) h2 s.heap.objs.size (.tup [.str ⟨#[c]⟩, ys[i]]) :=
      ⟨(by decide : 2 ≤ sizeLine), [.str ⟨#[c]⟩ tc, u], .cons ⟨tc, rfl⟩ (.cons ru .nil), ⟨_, nt, rfl, _, rfl⟩⟩
    have J : L2.Inv X pins σ (upd H s.heap.objs.size (.tup [.str ⟨#[c]⟩, ys[i]])) { s with heap := h2, toks := t1 } :=
      I.turnedNew (t' := t1) (ch := [z, TI, TO, i1, i2]) kp2 hf (Nat.le_refl _) pair
    obtain ⟨ob, g1, r1⟩ := f1
    refine ⟨.ref s.heap.objs.size, _, J, rfl, ⟨_, c, ys[i], rfl, I.hok.fresh (Nat.le_refl _), rfl, hx, fun l hl => ?_⟩,
      { zip := z2, ins := (sb.2 _ D.TIz).trans (kp _ _ D.TIz D.TITO D.TIi1 D.TIi2 q.ins), outs := ⟨_, u, (sb.2 _ D.TOz).trans o1⟩, txt := ⟨ob, (sb.2 _ D.i1z).trans g1, r1⟩, tup := f2.1.at fun o e => (sb.2 _ D.i2z).trans e }, fun a ha => ?_⟩
    · obtain rfl := I.list_inj hl hy
      exact List.getElem?_eq_getElem l2
    · exact (upd_ne (Nat.ne_of_lt (sm a ha))).trans (hf a ha).1
  done := by
    rintro X rfl rfl rfl hc i pins s σ H E I hf q ⟨ys, hy, l1, l2, l3⟩
    obtain ⟨vs, rv, tv, _⟩ := I.list hy
    obtain ⟨_, _, q3⟩ := q.outs
    have hd : X.A.in1.handled = none := I.ok.hd hc
    have e2 : vs.toArray.size = ys.length := by simpa using rv.length.symm
    refine wpAny_pyNext_zipD2_end (sep_of D) (Draws.text hd i1 x tk0) (Draws.list hd i2 b D.l1i2 vs.toArray) q.zip q.ins q3 q.txt ⟨q.tup, pl_is tv⟩ l1 (by omega) (by omega) fun h' tk kp => ⟨rfl, I.turnedL (t' := tk) (ch := [z, TI, TO, i1, i2]) (fun a o na e => ?_) hf⟩
    obtain ⟨n1, _, n3, n4, n5⟩ := no5 na
    exact kp a o n1 n3 n4 n5 e
  self := fun _ _ _ _ _ q h => wpAny_pyIter_zip q.zip h
def iZipSL (K : PySem.W.Frag) (ta : TA) : TI := fun σ H R => ta σ H fun vs H1 => ∃ x b ys, vs = [.str x, .ref b] ∧ SqL K H1 b ys ∧ R (ItzSL K x b) H1
theorem pi_zipSL {X : Cx} {e e2 : Expr} {ta : TA} {p pos tpos : Pos} {elts : List Expr} {kk : Nat} (hg : Gl X "zip") (hm : X.mg "zip" = none) (ha : PA X [e, e2] ta)
    (hs : starEach [e, e2] X.env = (false, eval e X.env) :: starEach [e2] X.env := by rfl) (hpl : (backTo pos (starEach [e2] X.env)).any (·.1) = false := by rfl) :
    PI X (.Tuple elts kk tpos) (.Call (.Name "zip" p) [e, e2] [] pos) (iZipSL X.K ta) where
  run pins s σ H R I h := by
    have go := ha.run pos pins s σ H _ I h
    refine Call_ (ld_blt I hg hm PyProof.Rows.boot_zip (PyProof.Rows.callWith_type1 (thn go ?_) hs hpl))
    rintro us s1 ⟨vs, H1, J, r1, x, b, ys, rfl, hy, q⟩
    match us, r1 with
    | [_, _], .cons ⟨tk0, rfl⟩ (.cons rfl .nil) =>
      obtain ⟨its, _, tv, _⟩ := J.list hy
      have tv := pl_is tv
      obtain ⟨_, hb, _⟩ := id tv
      have lb := Heap.lt_size hb
      let n := s1.heap.objs.size
      have up : ∀ c, c ∈ [n + 4, n + 2, n + 3, n, n + 1] → n ≤ c := all5 (by omega) (by omega) (by omega) (by omega) (by omega)
      refine zip_begins2 (begins_text x tk0) (begins_list b its.toArray) trivial (show s1.heap.IsList b its.toArray from tv) fun h' q1 q2 q3 q4 q5 _ kp => wpAny_pyIter_zip q1 ?_
      exact ⟨n + 4, [n + 4, n + 2, n + 3, n, n + 1], _, _, H1, rfl, J.kept (t' := s1.toks) kp, turn_zipSL (PySem.W.ktu_apart n b b lb lb),
        ⟨q1, q2, ⟨_, _, q3⟩, ⟨_, q4, rfl, rfl⟩, ⟨_, q5, rfl, rfl⟩⟩, fun c hc => J.fpOk (up c hc) (J.hok.fresh (up c hc)), q⟩

def kZL (K : PySem.W.Frag) (R : It → Hp → Prop) : List V → Hp → Prop := fun vs H1 => ∃ x b ys, vs = [.str x, .ref b] ∧ SqL K H1 b ys ∧ R (ItzSL K x b) H1
theorem w_zSL {K : PySem.W.Frag} {ta : TA} {σ : L2.St} {H : Hp} {R : It → Hp → Prop} (q : ta σ H (kZL K R)) : iZipSL K ta σ H R := q
theorem w_lcZL {K : PySem.W.Frag} {g : TG} {tt : TT} {te : TE} {vs : List Nat} {σ : L2.St} {H : Hp} {Q : VK} {x : Str} {b : Addr} (ys : List V) (Pv : Addr → Nat → Hp → Prop) (hq : SqL K H b ys) (hle : x.cps.size = ys.length) (h0 : ∀ D, H D = none → Pv D 0 (upd H D (.lst []))) (hl : ∀ D i H, Pv D i H → SqL K H b ys)
    (hs : ∀ D i c y T H H', x.cps[i]? = some c → ys[i]? = some y → Pv D i H → H T = none → Same H H' → H' T = some (.tup [.str ⟨#[c]⟩, y]) → g (.ref T) (wipe σ vs) H' fun σ2 H2 => wipe σ2 vs = wipe σ vs ∧ tt σ2 H2 fun b H3 =>
      if b = true then te σ2 H3 fun y H4 => ∃ acc, H4 D = some (.lst acc) ∧ acc.length < sizeLine ∧ Pv D (i + 1) (upd H4 D (.lst (acc ++ [y]))) else Pv D (i + 1) H3) (hd : ∀ D H', H D = none → Pv D ys.length H' → Q (.ref D) H') : kZL K (kLc g tt te vs σ Q) [.str x, .ref b] H := by
  refine ⟨x, b, ys, rfl, hq, fun D nD => ⟨fun i m H => m = ys.length - i ∧ i ≤ ys.length ∧ Pv D i H, ⟨ys.length, by simp, Nat.zero_le _, h0 D nD⟩, ?_⟩⟩
  rintro i m H' ⟨rfl, hi, p⟩
  have q := hl D i H' p
  by_cases hlt : i < ys.length
  · refine .inr ⟨⟨ys, q, by omega, hlt⟩, Pv D (i + 1), fun H2 p' => ⟨ys.length - (i + 1), by omega, rfl, hlt, p'⟩, fun v H2 y => ?_⟩
    obtain ⟨T, c, y, rfl, nT, rfl, hc, hy⟩ := y
    exact hs D i c y T H' _ hc (hy ys q) p nT (Same.new nT) upd_same
  · have e : i = ys.length := by omega
    subst e
    exact .inl ⟨⟨ys, q, by omega, Nat.le_refl _, .inr rfl⟩, hd D H' nD p⟩
theorem w_lcS {g : TG} {tt : TT} {te : TE} {vs : List Nat} {σ : L2.St} {H : Hp} {Q : VK} {x : Str} (Pv : Addr → Nat → Hp → Prop) (h0 : ∀ D, H D = none → Pv D 0 (upd H D (.lst [])))
    (hs : ∀ D i c H, x.cps[i]? = some c → Pv D i H → g (.str ⟨#[c]⟩) (wipe σ vs) H fun σ2 H2 => wipe σ2 vs = wipe σ vs ∧ tt σ2 H2 fun b H3 =>
      if b = true then te σ2 H3 fun y H4 => ∃ acc, H4 D = some (.lst acc) ∧ acc.length < sizeLine ∧ Pv D (i + 1) (upd H4 D (.lst (acc ++ [y]))) else Pv D (i + 1) H3) (hd : ∀ D H', H D = none → Pv D x.cps.size H' → Q (.ref D) H') : kSt (kLc g tt te vs σ Q) (.str x) H := by
  refine ⟨x, rfl, fun D nD => ⟨fun i m H => m = x.cps.size - i ∧ i ≤ x.cps.size ∧ Pv D i H, ⟨x.cps.size, by simp, Nat.zero_le _, h0 D nD⟩, ?_⟩⟩
  rintro i m H' ⟨rfl, hi, p⟩
  by_cases hlt : i < x.cps.size
  · refine .inr ⟨hlt, Pv D (i + 1), fun H2 p' => ⟨x.cps.size - (i + 1), by omega, rfl, hlt, p'⟩, fun v H2 y => ?_⟩
    obtain ⟨rfl, c, hc, rfl⟩ := y
    exact hs D i c _ hc p
  · have e : i = x.cps.size := by omega
    subst e
    exact .inl ⟨Nat.le_refl _, hd D H' nD p⟩
end Co
namespace Co
open PySem PySem.Spec PyProof.Rows L2 RZ TL
def rNotInKG (K : PySem.W.Frag) (w : World) : R2 := fun x y H Q => ∃ z o d, x = .str z ∧ y = .ref d ∧ KGet K w d z o ∧ Q (.bl (!o.isSome)) H
theorem op_notInKG {X : Cx} : OpR X (compareOp .NotIn) (rNotInKG X.K X.w) := by
  intro pins s σ H x y v u Q I rx ry h
  obtain ⟨z, o, d, rfl, rfl, ⟨es, n, hl, hk, hm, hv⟩, q⟩ := h
  rcases hv with ⟨rfl, e⟩ | ⟨v', u', rfl, e, _⟩
  · exact op_notIn_kd ⟨hl, hk, hm⟩ pins s σ H _ _ v u Q I rx ry ⟨z, none, rfl, rfl, e, q⟩
  · exact op_notIn_kd ⟨hl, hk, hm⟩ pins s σ H _ _ v u Q I rx ry ⟨z, some u', rfl, rfl, e, q⟩
theorem w_notInKG {K : PySem.W.Frag} {w : World} {z : Str} {o : Option V} {d : Addr} {H : Hp} {Q : VK} (g : KGet K w d z o) (q : Q (.bl (!o.isSome)) H) : rNotInKG K w (.str z) (.ref d) H Q := ⟨z, o, d, rfl, rfl, g, q⟩
theorem KGet.dct {K : PySem.W.Frag} {w : World} {d : Addr} {z : Str} {v : V} (g : KGet K w d z (some v)) : KDct K w d z v := by
  obtain ⟨es, n, hl, hk, hm, hv⟩ := g
  rcases hv with ⟨z, _⟩ | ⟨v', u', e, e2, r⟩
  · cases z
  · cases e
    exact ⟨es, n, u', hl, hk, e2, r⟩
/-! ### lengths of what texts are cut into -/
theorem trim_le (l : List Nat) : (trim l).length ≤ l.length := by
  have h : ∀ m : List Nat, (m.dropWhile blk).length ≤ m.length := fun m => by rw [← drop_tw, List.length_drop]; omega
  unfold trim trimB
  rw [List.length_reverse]
  refine Nat.le_trans (h _) ?_
  rw [List.length_reverse]
  exact h l
theorem strip_le (x : Str) : (Txt.stripChars x (" " : Str)).length ≤ x.length := by
  rw [len_tl, tl_strip, len_tl]
  exact trim_le _
theorem sub_le (x : Str) (i j : Nat) : (Builtin.Str.strSub x i j).length ≤ x.length := by
  rw [len_tl, tl_strSub, len_tl, List.length_take, List.length_drop]
  omega
theorem part1_le (x y : Str) : (Txt.partition x y).1.length ≤ x.length := by
  unfold Txt.partition
  split
  · exact sub_le _ _ _
  · exact Nat.le_refl _
theorem part3_le (x y : Str) : (Txt.partition x y).2.2.length ≤ x.length := by
  unfold Txt.partition
  split
  · exact sub_le _ _ _
  · exact Nat.zero_le _
theorem join_ge (y : Str) : ∀ ps : List Str, (∀ p ∈ ps, p.length ≤ (Str.join y ps).length) ∧ (1 ≤ y.length → ps.length ≤ (Str.join y ps).length + 1)
  | [] => ⟨fun p h => (by cases h), fun _ => Nat.zero_le _⟩
  | [x] => ⟨fun p h => by rw [List.mem_singleton.mp h]; exact Nat.le_refl _, fun _ => by show 1 ≤ _; omega⟩
  | x :: z :: r => by
    obtain ⟨h1, h2⟩ := join_ge y (z :: r)
    have e : (Str.join y (x :: z :: r)).length = x.length + y.length + (Str.join y (z :: r)).length := by
      show (x ++ y ++ Str.join y (z :: r)).length = _
      rw [cat_len, cat_len]
    refine ⟨fun p h => ?_, fun hy => ?_⟩
    · rw [e]
      rcases List.mem_cons.mp h with rfl | h
      · omega
      · have := h1 p h; omega
    · rw [e, List.length_cons]
      have := h2 hy
      omega
theorem split_le (x y : Str) (hy : 1 ≤ y.length) : (∀ p ∈ Txt.split x y, p.length ≤ x.length) ∧ (Txt.split x y).length ≤ x.length + 1 := by
  obtain ⟨h1, h2⟩ := join_ge y (Txt.split x y)
  rw [PySem.StrLaws.join_split] at h1 h2
  exact ⟨h1, h2 hy⟩
end Co
namespace Co
open PySem PySem.Spec PyProof.Rows L2
/-! ### a def that may raise, by its name -/
structure CdX (P : Program) (w : World) (K : PySem.W.Frag) (mg : Str → Option Value) (base : Heap) (k : Nat) (x : Str) (sp : Sp) : Prop where
  ex : ∃ (f : Addr) (fd : FuncData) (ps : List Str), FnOk P w K mg base (L2.CX P w) k f fd ps sp ∧ mg x = some (.ref f) ∧ PySem.W.keepIn K (.ref f) = true ∧ Binds K fd ps []
section
variable {X : Cx} {k j : Nat} {x : Str} {sp : Sp} {p pos : Pos} {e : Expr} {es : List Expr} {t : TA}
theorem pass_none {σ : L2.St} : PassesAt (L2.CX X.prog X.w) X σ E0 := fun _ _ _ _ _ _ c => by
  obtain ⟨_, _, _, _, _, _, _, _, _, _, _, _, z⟩ := c
  exact z.elim
/-- .. where it does not -/
theorem pe_cdX0 (c : CdX X.prog X.w X.K X.mg X.base k x sp) (hr : Room j X.A) (hk : k ≤ j) (hg : Gl X x) (ha : PA X (e :: es) t)
    (hdb : (x == ("__debug__" : Str)) = false := by decide) (he : starEach (e :: es) X.env = (false, eval e X.env) :: starEach es X.env := by rfl) (hpl : (backTo pos (starEach es X.env)).any (·.1) = false := by rfl) :
    PE X (.Call (.Name x p) (e :: es) [] pos) (tC1 sp t) := by
  obtain ⟨f, fd, ps, F, hm, kp, b⟩ := c.ex
  exact pe_callS (E := fun _ => E0) F (hr.mono hk) hg hm kp b (fun σ => pass_none) ha hdb he hpl
/-- .. in a try -/
theorem pe_cdXT {W : WX} (c : CdX X.prog X.w X.K X.mg X.base k x sp) (hr : Room j X.A) (hk : k ≤ j) (hg : Gl X x) (tk : Takes X W) (ha : PA X (e :: es) t)
    (hdb : (x == ("__debug__" : Str)) = false := by decide) (he : starEach (e :: es) X.env = (false, eval e X.env) :: starEach es X.env := by rfl) (hpl : (backTo pos (starEach es X.env)).any (·.1) = false := by rfl) :
    PE X (.Call (.Name x p) (e :: es) [] pos) (tCallS sp (WE W) t) := by
  obtain ⟨f, fd, ps, F, hm, kp, b⟩ := c.ex
  exact pe_callS F (hr.mono hk) hg hm kp b (fun σ => passAt tk σ) ha hdb he hpl
theorem w_callS {sp : Sp} {W : WX} {t : TA} {σ : L2.St} {H : Hp} {Q : VK} (q : t σ H fun vs H1 => sp vs H1 Q (WE W σ)) : tCallS sp (WE W) t σ H Q := q
theorem w_lineAs {C a : Addr} {cls : Value} {d : Option Addr} {te : TE} {σ : L2.St} {H : Hp} {Q : VK} (q : te σ H fun x H1 => x = .ref a ∧ cls = .ref C ∧ ∃ (dd : Addr) (v : V), d = some dd ∧ H1 dd = some (.xd [(("line" : Str), v)]) ∧ Q v H1) : tLineAs C a cls d te σ H Q := q
end
end Co
namespace Co
open PySem PySem.Spec PyProof.Rows L2
theorem mt_joinQK {X : Cx} {K' : PySem.W.Frag} (hK : X.K = K') : MtR X "str.join" (rJoinQ K') := by subst hK; exact mt_joinQ
end Co

set_option Elab.async false
set_option linter.all false
set_option maxRecDepth 100000
set_option maxHeartbeats 4000000
namespace Co
open PySem PySem.Spec PyProof.Rows L2
/-! a list comprehension whose element may raise (the library's rules ask that nothing is raised in the block) -/
theorem note_frame {e : Value} {a b : Env} (h : a.frame = b.frame) : noteFrame e a = noteFrame e b := by
  unfold noteFrame PySem.frameOf
  rw [h]
/-- what stands behind the block: the frame is told where it raised -/
def postF (M : Model) (A : Around) (E : Value → Shared → Prop) (use : Option (Value → Sem Unit)) (Q : Value → Shared → Prop) (acc : Value) (C : Addr) (fr : Option Addr) : Result → Shared → Prop
  | .ok f, s' => compPost M A E use Q acc C (.ok f) s'
  | .error x, s' => ∃ m, s'.heap.Ns C m ∧ ∀ h2 m2, h2.Ns C m2 → Heap.SameBut C s'.heap h2 → ∀ v : Env, v.frame = fr →
      wpAny M A (PySem.passOn "comprehension.variables-let-go" x v : Sem Value) (fun _ _ => False) E { s' with heap := h2 }
section
variable {M : Model} {A : Around} {E : Value → Shared → Prop} {s : Shared} {env : Env} {e : Expr} {scope : Scope} {pos : Pos} {mk first : Sem Value} {g : Comprehension} {gs : List Comprehension} {cl : List (Str × Addr)} {use : Option (Value → Sem Unit)} {Q : Value → Shared → Prop}
theorem comp_free (c1 : clausesOf e = g :: gs) (c2 : ∀ x, foldedSetIterable g.iter env x = pure x) (c3 : closureFor scope env = pure cl) (c4 : scope.kind = .function) (c5 : ∀ y ∈ scope.names, y.2 = .local → scope.names.lookup y.1 = some .local)
    (h : wpAny M A first (fun x s1 => wpAny M A (pyIter x) (fun it s2 => wpAny M A mk (fun acc s3 => wpAny M A (newFunctionEnv scope env.globals cl [] env.qual none .none (some env)) (fun ce s4 =>
        codeAny M A (.compStart e 0 it acc { ce with scope := relabel scope env }) (postF M A E use Q acc ce.locals ce.frame) s4) E s3) E s2) E s1) E s) :
    wpAny M A (comprehension e scope env pos mk false first use) Q E s := by
  unfold comprehension
  rw [c3, c1]
  have id2 : ∀ e (s' : Shared), E e s' → E e s' := fun _ _ z => z
  refine wpAny_bind (wpAny_mono h (fun x s1 h1 => ?_) id2)
  refine wpAny_bind (wpAny_standAt (wpAny_bind (wpAny_of_eq (c2 x) (wpAny_bind (wpAny_holding (wpAny_mono h1 (fun it s2 h2 => ?_) id2))))))
  refine wpAny_standIf (wpAny_bind (wpAny_mono h2 (fun acc s3 h3 => ?_) id2))
  refine wpAny_bind (wpAny_pure (wpAny_bind (wpAny_mono h3 (fun ce s4 h4 => ?_) id2)))
  dsimp only
  have hv : ∀ x ∈ (scope.names.filter fun x => (x.2 == .local || x.2 == .cell) && x.1 != (".0" : Str)).reverse, x.2 = .local → Env.kindOf { ce with scope := relabel scope env } x.1 = some .local :=
    fun x hx hl => lookup_relabel_local (c5 x (List.mem_filter.mp (List.mem_reverse.mp hx)).1 hl)
  have hw : ∀ x ∈ (scope.names.filter fun x => (x.2 == .local || x.2 == .cell) && x.1 != (".0" : Str)).reverse.drop 1 ++ (scope.names.filter fun x => (x.2 == .local || x.2 == .cell) && x.1 != (".0" : Str)).reverse.take 1, x.2 = .local → Env.kindOf { ce with scope := relabel scope env } x.1 = some .local :=
    fun x hx hl => (List.mem_append.mp hx).elim (fun z => hv x (List.mem_of_mem_drop z) hl) (fun z => hv x (List.mem_of_mem_take z) hl)
  refine wpAny_holding (wpAny_bind (wpAny_attempt (wpAny_holding (wpAny_run (codeAny_mono h4 fun r s' hr => ?_)))))
  match r, hr with
  | .error x, hr =>
    obtain ⟨m, hn, hr⟩ := hr
    refine wpAny_bind (wpAny_holding (wpAny_comp_letGo (cenv := { ce with scope := relabel scope env }) c4 _ s' m hv hn fun h2 m2 hn2 hs2 => ?_))
    exact wpAny_mono (hr h2 m2 hn2 hs2 _ rfl) (fun _ _ f => f.elim) id2
  | .ok f, hr =>
    cases use with
    | none =>
      obtain ⟨m, hn, hr⟩ := hr
      exact wpAny_bind (wpAny_holding (wpAny_comp_letGo (cenv := { ce with scope := relabel scope env }) c4 _ s' m hv hn fun h2 m2 _ hs2 => wpAny_pure (hr h2 hs2)))
    | some u =>
      refine wpAny_bind (wpAny_rule (wpAny_bind (wpAny_holding (wpAny_mono hr (fun _ t hr2 => ?_) id2))))
      obtain ⟨m, hn, hr2⟩ := hr2
      exact wpAny_bind (wpAny_comp_letGo (cenv := { ce with scope := relabel scope env }) c4 _ t m hw hn fun h2 m2 _ hs2 => wpAny_pure (hr2 h2 hs2))
end
/-- the block's context, with a wish about exceptions -/
abbrev blkX (X : Cx) (s : Shared) (H : Hp) (scope : Scope) (ce : Env) (fp : List Addr) (xe : Value → Shared → Prop) : Cx := { X.blk s H scope ce fp with xe := xe }
theorem inv_blkX {X : Cx} {s s' : Shared} {H H' : Hp} {scope : Scope} {ce : Env} {fp : List Addr} {xe : Value → Shared → Prop} {pins : List (Addr × Obj)} {σ : L2.St} (I : Inv (X.blk s H scope ce fp) pins σ H' s') : Inv (blkX X s H scope ce fp xe) pins σ H' s' := by
  obtain ⟨⟨a1, a2, a3, a4, a5, a6, a7, a8, a9, a10, a11, a12, a13, a14, a15, a16, a17, a18⟩, b1, b2, b3, b4, b5, b6, b7, b8, b9, b10⟩ := I
  exact ⟨⟨a1, a2, a3, a4, a5, a6, a7, a8, a9, a10, a11, a12, a13, a14, a15, a16, a17, a18⟩, b1, b2, b3, b4, b5, b6, b7, b8, b9, b10⟩
/-- in the context X an exception that a call lets out is taken -/
def Rz (X : Cx) (W : XK) : Prop := ∀ (pins : List (Addr × Obj)) (σ : L2.St) (H : Hp) (s : Shared) (u : Value) (s' : Shared), Inv X pins σ H s → L2.CX X.prog X.w X.stack H s W u s' → X.xe u s'
section
variable {X : Cx} {W : XK}
theorem comp_raise (hs : X.stack = X.env :: X.outer) (hf : X.env.frame = some X.env.locals) (tk : Takes X (fun cls d _ H => W cls d H)) {pins : List (Addr × Obj)} {σ : L2.St} {H3 : Hp} {s3 : Shared} {scope : Scope} {ce : Env} {fp : List Addr} {xe : Value → Shared → Prop}
    (I3 : Inv X pins σ H3 s3) (f3 : ∀ b ∈ fp, FpOk X pins H3 b ∧ b < s3.heap.objs.size) (cL : ce.locals = s3.heap.objs.size) (cF : ce.frame = X.env.frame) {pins5 : List (Addr × Obj)} {σ5 : L2.St} {H5 : Hp} {s5 s' : Shared} {u : Value} (I5 : Inv (blkX X s3 H3 scope ce fp xe) pins5 σ5 H5 s5)
    (c : L2.CX X.prog X.w X.stack H5 s5 W u s') {use : Option (Value → Sem Unit)} {Q : Value → Shared → Prop} {acc : Value} :
    notedBy (model X.prog X.w) X.A ce (fun e t => postF (model X.prog X.w) X.A X.xe use Q acc ce.locals ce.frame (.error e) t) u s' := by
  obtain ⟨a, B, H', cls, d, rfl, fl, hok, ub, na, os, ag, hE⟩ := c
  have hfr : X.A.frames = some (X.env :: X.outer) := by rw [I3.ok.frames, hs]
  unfold notedBy
  rw [note_frame cF]
  have fl' : HandSPX.FlyingZ B (X.env :: X.outer) a (Zc cls d) s'.heap := by rw [← hs]; exact fl
  refine HandSPX.looks_onZ Zc.steady hfr hf fl' (fun h2 held up => ?_)
  obtain ⟨kB, nBa, fun2, oe, vs, T, oT, ts, he, hz, hd, h1, hnT, hTe, hT, hdT, hfl⟩ := held
  -- the block's own names
  obtain ⟨m, ⟨oC, es, ep, hoC, hdC, hrC⟩, _⟩ := I5.loc
  have hoC : s5.heap.get? ce.locals = some oC := hoC
  have nC5 : H5 ce.locals = none := I5.free
  have fC : FpOk X pins H5 ce.locals := I3.fpOk (Nat.le_of_eq cL.symm) nC5
  have nCf : ce.locals ∉ frs X.stack := fun z => (List.mem_cons.mp (I3.stkSub _ z)).elim fC.2.1 fC.2.2.1
  have BC : B.get? ce.locals = some oC := ub.keep _ _ hoC nC5 nCf
  have h2C : h2.get? ce.locals = some oC := kB _ _ BC
  refine ⟨m, ⟨oC, es, ep, h2C, hdC, hrC⟩, fun h3 m3 hn3 sb v hv => ?_⟩
  obtain ⟨B0, g1, g2⟩ := restrict B fun b => decide (b ≠ ce.locals)
  have B0k : ∀ b, b ≠ ce.locals → B0.get? b = B.get? b := fun b hb => g1 b (decide_eq_true hb)
  have B0C : B0.get? ce.locals = none := g2 _ (by simp)
  have B0B : ∀ b o, B0.get? b = some o → B.get? b = some o ∧ b ≠ ce.locals := fun b o q => by
    by_cases z : b = ce.locals
    · rw [z, B0C] at q; cases q
    · exact ⟨(B0k b z).symm.trans q, z⟩
  have B0n : ∀ b, B.get? b = none → B0.get? b = none := fun b q => by
    by_cases z : b = ce.locals
    · rw [z]; exact B0C
    · exact (B0k b z).trans q
  have naC : a ≠ ce.locals := fun z => by
    rw [z, h2C] at he; cases he
    rw [hdC] at hd; cases hd
  have nTC : T ≠ ce.locals := fun z => by
    rw [z, h2C] at hT; cases hT
    rw [hdC] at hdT; cases hdT
  have held3 : HandSPX.HeldZ B0 (X.env :: X.outer) a (Zc cls d) X.env.locals h3 := by
    refine ⟨fun b o q => ?_, B0n _ nBa, ?_, oe, vs, T, oT, ts, (sb.2 _ naC).trans he, hz, hd, h1, B0n _ hnT, hTe, (sb.2 _ nTC).trans hT, hdT, hfl⟩
    · obtain ⟨q1, q2⟩ := B0B b o q
      exact (sb.2 b q2).trans (kB b o q1)
    · exact funFrames_none (Heap.FunFrames.sameBut sb hn3 fun2) fun L hL => B0n L (fun2.mem hL).1
  have ra : h3.get? a = some oe := (sb.2 _ naC).trans he
  unfold PySem.passOn
  refine wpAny_bind (wpAny_field ra hd h1 ?_)
  rw [if_neg (show ¬ ((Value.ref T == Value.none) = true) from by simp)]
  rw [show v.frame = some X.env.locals from hv.trans (cF.trans hf)]
  refine wpAny_bind (HandSPX.setFlight_onZ held3 fun h4 held4 up4 => wpAny_throw ?_)
  obtain ⟨G, p1, p2⟩ := restrict h4 fun b => (B0.get? b).isSome || decide (b ∈ frs X.stack)
  have st4 : ∀ b o, B0.get? b = some o → h4.get? b = some o := held4.1
  have gB : ∀ b o, B0.get? b = some o → G.get? b = some o := fun b o q => by
    rw [p1 b (by simp [q])]
    exact st4 b o q
  have gF : ∀ b, b ∈ frs X.stack → G.get? b = h4.get? b := fun b q => p1 b (by simp [q])
  have og : ∀ b o, G.get? b = some o → h4.get? b = some o ∧ ((B0.get? b).isSome = true ∨ b ∈ frs X.stack) := fun b o q => by
    cases z : ((B0.get? b).isSome || decide (b ∈ frs X.stack)) with
    | false => rw [p2 b z] at q; cases q
    | true =>
      rw [p1 b z] at q
      exact ⟨q, by simpa [Bool.or_eq_true] using z⟩
  have old : ∀ b o, s3.heap.get? b = some o → b ≠ ce.locals := fun b o q z => by
    have := Heap.lt_size q
    rw [z, cL] at this
    exact Nat.lt_irrefl _ this
  have slots : ∀ b o, s3.heap.get? b = some o → b ∈ frs X.stack → b ∉ fp → ∃ sl, G.get? b = some { o with slots := sl } := fun b o q hb hx => by
    obtain ⟨_, o0, q0, hnf⟩ := I3.stack.mem hb
    rw [q] at q0; cases q0
    obtain ⟨sl, q1⟩ := I5.base.slot b o q (I3.stkFree b hb) hb hx
    obtain ⟨sl2, q2⟩ := ub.slot b _ q1 hb
    obtain ⟨sl3, q3⟩ := up b _ q2 hnf
    have q4 := (sb.2 b (old b o q)).trans q3
    obtain ⟨sl5, q5⟩ := up4 b _ q4 hnf
    exact ⟨sl5, (gF b hb).trans q5⟩
  refine tk _ _ ⟨a, B0, { s5 with heap := G, gens := s'.gens, drawn := s'.drawn, toks := s'.toks }, pins, σ, H', cls, d, rfl, ?_, fun b o q hb => ?_, Heap.UpToSlots.of_keeps fun b o q => (og b o q).1, by rw [hs]; exact .inr (.inr held4), na, os, ag, hE⟩
  · refine I3.call' (ch := fp) I5.os ⟨fun b o q n hb hx => ?_, fun b o q n hb hx => slots b o q hb hx, fun b o q n hx => ?_, fun b o q hx => ?_, fun b xs q => ub.tups _ _ (I5.base.tups _ _ q), fun b o xs q => ub.frzs _ _ _ (I5.base.frzs _ _ _ q), fun b ps q => ?_⟩ (fun b o q => ?_) ag fun b hb => ⟨(f3 b hb).1.2.2.2.1, (f3 b hb).1.2.1, (f3 b hb).1.2.2.2.2.1, (f3 b hb).1.2.2.2.2.2⟩
    · have q5 := I5.base.keep b o q n hb hx
      have n5 := I5.base.free b o q n hx
      exact gB b o ((B0k b (old b o q)).trans (ub.keep b o q5 n5 hb))
    · obtain ⟨o1, q5⟩ := I5.base.there b o q hx
      exact ub.free b o1 q5 (I5.base.free b o q n hx)
    · by_cases hb : b ∈ frs X.stack
      · obtain ⟨sl, z⟩ := slots b o q hb hx
        exact ⟨_, z⟩
      · obtain ⟨o1, q5⟩ := I5.base.there b o q hx
        obtain ⟨o2, q6⟩ := ub.there b o1 q5 hb
        exact ⟨o2, gB b o2 ((B0k b (old b o q)).trans q6)⟩
    · obtain ⟨m1, q1⟩ := I5.base.tbls b ps q
      obtain ⟨m2, q2⟩ := ub.tbls b _ q1
      exact ⟨m1 ++ m2, by rw [q2, Array.append_assoc]⟩
    · have nC' : H' ce.locals = none := ub.free _ _ hoC nC5
      refine (hok b o q).stay (fun c w hc r => gB c w ((B0k c ?_).trans r)) (fun _ r => r) fun _ _ r => r
      rcases hc with z | z
      · rw [z]; intro y; rw [y, nC'] at q; cases q
      · intro y; rw [y, nC'] at z; cases z
  · obtain ⟨q1, h⟩ := og b o q
    rcases h with h | h
    · obtain ⟨o2, q2⟩ := Option.isSome_iff_exists.mp h
      have z := st4 b o2 q2
      rw [q1] at z; cases z
      exact q2
    · exact absurd h hb
end
section
variable {X : Cx} {W : XK} {elt tg iter : Expr} {ifs : List Expr} {scope : Scope} {own : List (Str × Nat)} {pos : Pos} {wi : TI} {g : TG} {tt : TT} {te : TE}
theorem lc_coreX (hs : X.stack = X.env :: X.outer) (hf : X.env.frame = some X.env.locals) (tk : Takes X (fun cls d _ H => W cls d H)) {pins : List (Addr × Obj)} {s : Shared} {σ : L2.St} {H : Hp} {Q : VK} {pos' : Pos} {use : Option (Value → Sem Unit)} {Qf : Value → Shared → Prop}
    (hc : X.calm = true) (hN : X.N.Nodup) (I : Inv X pins σ H s) (hi : PI X tg iter wi) (ok : BlkOk X.N X.env.scope scope own)
    (hg : ∀ s H C cl fp xe, PG (blkX X s H scope (compEnvC scope cl C X.env) fp xe) tg g) (ht : ∀ s H C cl fp xe, PTs (blkX X s H scope (compEnvC scope cl C X.env) fp xe) ifs tt)
    (he : ∀ s H C cl fp xe, Rz (blkX X s H scope (compEnvC scope cl C X.env) fp xe) W → PE (blkX X s H scope (compEnvC scope cl C X.env) fp xe) elt te) (h0 : ∀ x, foldedSetIterable iter X.env x = pure x)
    (h : tLc wi g tt te (own.map (·.2)) σ H Q)
    (hR : ∀ D C s' m H', Inv X pins σ H' s' → Q (.ref D) H' → s'.heap.Ns C m → FpOk X pins H' C → compPost (model X.prog X.w) X.A X.xe use Qf (.ref D) C (.ok .next) s') :
    wpAny (model X.prog X.w) X.A (comprehension (.ListComp elt [⟨tg, iter, ifs, 0⟩] scope pos) scope X.env pos' (newList []) false (eval iter X.env) use) Qf X.xe s := by
  have cellsOf : ∀ y ∈ scope.names, y.2 = .free → ∃ c, X.env.cells.lookup y.1 = some c := fun y hy e => I.ok.has _ (ok.free y hy e)
  refine comp_free (use := use) rfl h0 (closure_ok cellsOf) ok.kind (fun y hy e => by rw [ok.uniq y hy, e]) (thn (hi.run pins s σ H _ I h) fun xv s1 hx => thn hx fun itv s2 h2 => ?_)
  obtain ⟨it, fp, tn, J, H2, e, I2, T, st2, f2, q⟩ := h2
  subst e
  refine wpAny_newObj_type (newEnv_comp ?_) (by show 0 ≤ sizeLine; decide)
  generalize hD : s2.heap.objs.size = D
  have nD : H2 D = none := I2.hok.fresh (Nat.le_of_eq hD)
  obtain ⟨Wt, ⟨m0, w0⟩, turn⟩ := q D nD
  generalize e3 : ({ s2 with heap := s2.heap.push { cls := .type "list", data := .seq ([] : List Value).toArray } } : Shared) = s3
  have h3 : s3.heap = s2.heap.push { cls := .type "list", data := .seq ([] : List Value).toArray } := by rw [← e3]
  have I3 : Inv X pins σ (upd H2 D (.lst [])) s3 := by
    rw [← e3]
    refine I2.laid (t' := s2.toks) (fun b o z => Heap.get?_push_of_some _ z) (Nat.le_of_eq hD) ⟨Nat.zero_le _, [], 0, .nil, ?_⟩
    rw [← hD]
    exact Heap.get?_push_size _ rfl
  have below : ∀ b ∈ fp, b < s2.heap.objs.size := fun b hb => Heap.lt_size (T.obj _ _ st2 b hb).choose_spec.1
  have f3 : ∀ b ∈ fp, FpOk X pins (upd H2 D (.lst [])) b ∧ b < s3.heap.objs.size := fun b hb =>
    ⟨⟨by rw [upd_ne (by rw [← hD]; exact Nat.ne_of_lt (below b hb))]; exact (f2 b hb).1, (f2 b hb).2⟩, by rw [h3, Heap.size_push]; exact Nat.lt_succ_of_lt (below b hb)⟩
  have st3 : tn 0 s3.heap := T.keep _ _ _ st2 fun b _ o z => by rw [h3]; exact Heap.get?_push_of_some _ z
  have nfp : ∀ b ∈ fp, (upd H2 D (.lst [])) b = none := fun b hb => (f3 b hb).1.1
  generalize hcl : cellsFrom (s3.heap.objs.size + 1) scope.names (cloFrom X.env.cells scope.names []) = cl
  have B0 := block_start I3 ok hN f3
  rw [hcl] at B0
  show codeAny _ _ (.compStart (.ListComp elt [⟨tg, iter, ifs, 0⟩] scope pos) 0 (.ref it) (.ref D) (compEnvC scope cl s3.heap.objs.size X.env))
    (postF (model X.prog X.w) X.A X.xe use Qf (.ref D) s3.heap.objs.size X.env.frame) { s3 with heap := pushCells (s3.heap.push { cls := .type "dict", data := .dict #[] }) scope.names }
  generalize exe : (notedBy (model X.prog X.w) X.A (compEnvC scope cl s3.heap.objs.size X.env) fun e t => postF (model X.prog X.w) X.A X.xe use Qf (.ref D) s3.heap.objs.size X.env.frame (.error e) t) = xe
  have rz : Rz (blkX X s3 (upd H2 D (.lst [])) scope (compEnvC scope cl s3.heap.objs.size X.env) fp xe) W := fun pins5 σ5 H5 s5 u s' I5 c => by
    have z := comp_raise (ce := compEnvC scope cl s3.heap.objs.size X.env) hs hf tk I3 f3 rfl rfl I5 c (use := use) (Q := Qf) (acc := .ref D)
    rw [← exe]
    exact z
  have pg := hg s3 (upd H2 D (.lst [])) s3.heap.objs.size cl fp xe
  have pt := ht s3 (upd H2 D (.lst [])) s3.heap.objs.size cl fp xe
  have pe := he s3 (upd H2 D (.lst [])) s3.heap.objs.size cl fp xe rz
  have I4 := inv_blkX (xe := xe) B0
  generalize hce : compEnvC scope cl s3.heap.objs.size X.env = ce at I4 pg pt pe exe ⊢
  have cL : ce.locals = s3.heap.objs.size := by rw [← hce]; rfl
  generalize hH3 : upd H2 D (.lst []) = H3 at I3 I4 pg pt pe w0 nfp f3
  generalize e4 : ({ s3 with heap := pushCells (s3.heap.push { cls := .type "dict", data := .dict #[] }) scope.names } : Shared) = s4 at I4 ⊢
  have st4 : tn 0 s4.heap := T.keep _ _ _ st3 fun b _ o z => by rw [← e4]; exact pushCells_keeps _ _ _ _ (Heap.get?_push_of_some _ z)
  have stat : ∀ {σ' : L2.St} {H' : Hp} {s' : Shared}, Inv (blkX X s3 H3 scope ce fp xe) [] σ' H' s' → (∀ b ∈ fp, H' b = none) → ∀ b ∈ fp, FpOk (blkX X s3 H3 scope ce fp xe) [] H' b := fun {σ' H' s'} I' hn b hb =>
    ⟨hn b hb, (I'.ok.exf b hb).1, I'.ok.exfs b hb, .inl hb, fun y c z => (I'.ok.exf b hb).2 y c z, fun p hp => absurd (show p ∈ ([] : List (Addr × Obj)) ++ [] from hp) (by simp)⟩
  have loop : codeAny (model X.prog X.w) X.A (.compLoop (.ListComp elt [⟨tg, iter, ifs, 0⟩] scope pos) 0 (.ref it) (.ref D) ce) (postF (model X.prog X.w) X.A X.xe use Qf (.ref D) s3.heap.objs.size X.env.frame) s4 := by
    refine compLoop_any (fun n s' => ∃ i H', Inv (blkX X s3 H3 scope ce fp xe) [] (wipe σ (own.map (·.2))) H' s' ∧ tn i s'.heap ∧ (∀ b ∈ fp, H' b = none) ∧ Wt i n H') ?_ m0 ⟨0, H3, I4, st4, nfp, w0⟩
    rw [exe]
    rintro n s5 ⟨i, H5, I5, st5, n5, w5⟩
    rcases turn i n H5 w5 with ⟨stop, qq⟩ | ⟨go, Nx, hNx, step⟩
    · refine thn (T.done (blkX X s3 H3 scope ce fp xe) rfl rfl rfl hc i [] s5 _ H5 xe I5 (stat I5 n5) st5 stop) fun r s6 ⟨hr, I6⟩ => ?_
      subst hr
      have I7 : Inv X pins σ H5 s6 := I3.call' (ch := fp) I6.os I6.base I6.hok I6.bare fun b hb => ⟨(f3 b hb).1.2.2.2.1, (f3 b hb).1.2.1, (f3 b hb).1.2.2.2.2.1, (f3 b hb).1.2.2.2.2.2⟩
      have nC : H5 s3.heap.objs.size = none := by
        rw [← cL]
        exact I6.free
      obtain ⟨m, hn, _⟩ := I6.loc
      have hn : s6.heap.Ns ce.locals m := hn
      rw [cL] at hn
      exact hR D s3.heap.objs.size s6 m H5 I7 qq hn (I3.fpOk (Nat.le_refl _) nC)
    · refine thn (T.item (blkX X s3 H3 scope ce fp xe) rfl rfl rfl hc i [] s5 _ H5 xe I5 (stat I5 n5) st5 go) fun r s6 ⟨u, hr, h6⟩ => ?_
      subst hr
      refine thn h6 fun _ s7 ⟨x, H7, I7, r7, y7, st7, n7⟩ => ?_
      have I8 := I7.pinned (stat I7 n7) (T.obj _ _ st7)
      refine thn (pg.run _ s7 _ H7 x u _ I8 r7 (step x H7 y7)) fun _ s8 ⟨σ8, H8, I9, hw8, q8⟩ => ?_
      refine thn (pt.run _ s8 σ8 H8 _ I9 q8) fun b s9 ⟨H9, I10, q9⟩ => ?_
      have fin : ∀ {s' : Shared} {H' : Hp}, Inv (blkX X s3 H3 scope ce fp xe) ([] ++ pinsAt fp s7.heap) σ8 H' s' → Nx H' → ∃ m, m < n ∧ ∃ i H', Inv (blkX X s3 H3 scope ce fp xe) [] (wipe σ (own.map (·.2))) H' s' ∧ tn i s'.heap ∧ (∀ b ∈ fp, H' b = none) ∧ Wt i m H' := fun {s' H'} I' nx => by
        obtain ⟨m', hm, w'⟩ := hNx H' nx
        have pin' : ∀ b ∈ fp, ∀ o, s7.heap.get? b = some o → s'.heap.get? b = some o ∧ H' b = none := fun b hb o z =>
          let y := I'.pin (b, o) (List.mem_append_right _ (List.mem_append_right _ (mem_pinsAt hb z)))
          ⟨y.1, y.2.1⟩
        refine ⟨m', hm, i + 1, H', (I'.unpinned (pins := [])).weak (by rw [← hw8, wipe_length]) (fun j v z => ?_), T.keep _ _ _ st7 fun b hb o z => (pin' b hb o z).1, fun b hb => ?_, w'⟩
        · rw [← hw8] at z
          exact (wipe_some z).1
        · obtain ⟨o, z, _⟩ := T.obj _ _ st7 b hb
          exact (pin' b hb o z).2
      cases b with
      | false =>
        simp only [Bool.false_eq_true, if_false] at q9 ⊢
        exact fin I10 q9
      | true =>
        simp only [if_true] at q9 ⊢
        refine thn (pe.run _ s9 σ8 H9 _ I10 q9) fun z s10 ⟨yv, H10, I11, r10, acc, hD10, hz10, nx⟩ => ?_
        exact app_ok (X := blkX X s3 H3 scope ce fp xe) I11 hD10 hz10 r10 fun s11 I12 => fin I12 nx
  exact codeAny_compStart_list loop (T.self X.A 0 _ _ _ st4 loop)
/-- as a value -/
theorem pe_lcX (hc : X.calm = true) (hN : X.N.Nodup) (hs : X.stack = X.env :: X.outer) (hf : X.env.frame = some X.env.locals) (tk : Takes X (fun cls d _ H => W cls d H)) (hi : PI X tg iter wi) (ok : BlkOk X.N X.env.scope scope own)
    (hg : ∀ s H C cl fp xe, PG (blkX X s H scope (compEnvC scope cl C X.env) fp xe) tg g) (ht : ∀ s H C cl fp xe, PTs (blkX X s H scope (compEnvC scope cl C X.env) fp xe) ifs tt)
    (he : ∀ s H C cl fp xe, Rz (blkX X s H scope (compEnvC scope cl C X.env) fp xe) W → PE (blkX X s H scope (compEnvC scope cl C X.env) fp xe) elt te) (h0 : ∀ x, foldedSetIterable iter X.env x = pure x := by intro _; rfl) :
    PE X (.ListComp elt [⟨tg, iter, ifs, 0⟩] scope pos) (tLc wi g tt te (own.map (·.2))) := by
  refine ⟨fun pins s σ H Q I h => ?_⟩
  rw [eval_ListComp]
  refine lc_coreX hs hf tk hc hN I hi ok hg ht he h0 h fun D C s' m H' I' q hn ⟨f0, f1, f2, f3, f4, f5⟩ => ⟨m, hn, fun h2 sb => ?_⟩
  exact ⟨.ref D, H', I'.turned (t' := s'.toks) (fun b o hb z => (sb.2 b hb).trans z) f0 f1 f3 f4 f5, rfl, q⟩
/-- name = [..] on one line, the name a local -/
theorem ps_setLcX {i : Nat} {y : Str} {py : Pos} {spos : Pos} (hc : X.calm = true) (hN : X.N.Nodup) (hs : X.stack = X.env :: X.outer) (hf : X.env.frame = some X.env.locals) (tk : Takes X (fun cls d _ H => W cls d H)) (hy : X.N[i]? = some y) (hyl : X.env.scope.names.lookup y = some .local)
    (hsw : swapsWith (.ListComp elt [⟨tg, iter, ifs, 0⟩] scope pos) (some (.Name y py)) spos.line X.env = pure true) (hi : PI X tg iter wi) (ok : BlkOk X.N X.env.scope scope own)
    (hg : ∀ s H C cl fp xe, PG (blkX X s H scope (compEnvC scope cl C X.env) fp xe) tg g) (ht : ∀ s H C cl fp xe, PTs (blkX X s H scope (compEnvC scope cl C X.env) fp xe) ifs tt)
    (he : ∀ s H C cl fp xe, Rz (blkX X s H scope (compEnvC scope cl C X.env) fp xe) W → PE (blkX X s H scope (compEnvC scope cl C X.env) fp xe) elt te) (h0 : ∀ x, foldedSetIterable iter X.env x = pure x := by intro _; rfl) :
    PS X (.Assign [.Name y py] (.ListComp elt [⟨tg, iter, ifs, 0⟩] scope pos) spos) (tAsg (tLc wi g tt te (own.map (·.2))) (gName i)) := by
  refine ⟨fun pins s σ H D I h => ?_⟩
  rw [exec_Assign_Name_used _ _ _ _ hsw]
  refine wpAny_bind (wpAny_standAt (wpAny_bind ?_))
  show wpAny _ X.A (do let _ ← comprehension (.ListComp elt [⟨tg, iter, ifs, 0⟩] scope pos) scope X.env (firstIterPos [⟨tg, iter, ifs, 0⟩] pos) (newList []) false (eval iter X.env) (some (assign (.Name y py) X.env))) _ _ s
  have h : tLc wi g tt te (own.map (·.2)) σ H (fun x H1 => gName i x σ H1 D.nx) := h
  refine wpAny_bind (thn (lc_coreX (Qf := fun _ s' => SP X pins D .next s') hs hf tk hc hN I hi ok hg ht he h0 h fun L C s' m H' I' q hn ⟨f0, f1, f2, f3, f4, f5⟩ => ?_) fun _ s' hq => wpAny_pure (wpAny_pure hq))
  show wpAny _ _ (assign (.Name y py) X.env (.ref L)) _ _ _
  refine wpAny_assign_Name (store_ok2 (v := V.ref L) I' hN hy (.inl hyl) rfl (fun s2 I2 ⟨a, sb, ha⟩ => ?_) (.inr hyl))
  have nCa : C ≠ a := by
    rcases ha with z | z
    · rw [z]; exact f1
    · exact fun e => f4 y a z e.symm
  exact ⟨m, hn.sameBut sb nCa, fun h3 sb3 => ⟨_, H', I2.turned (t' := s2.toks) (fun b o hb z => (sb3.2 b hb).trans z) f0 f1 f3 f4 f5, q⟩⟩
/-- a call in the block that may raise -/
theorem pe_cdXB {k j : Nat} {x : Str} {sp : Sp} {p cpos : Pos} {e : Expr} {es : List Expr} {t : TA} (c : CdX X.prog X.w X.K X.mg X.base k x sp) (hr : Room j X.A) (hk : k ≤ j) (hg : Gl X x) (rz : Rz X W) (ha : PA X (e :: es) t)
    (hdb : (x == ("__debug__" : Str)) = false := by decide) (he : starEach (e :: es) X.env = (false, eval e X.env) :: starEach es X.env := by rfl) (hpl : (backTo cpos (starEach es X.env)).any (·.1) = false := by rfl) :
    PE X (.Call (.Name x p) (e :: es) [] cpos) (tCallS sp (fun _ => W) t) := by
  obtain ⟨f, fd, ps, F, hm, kp, b⟩ := c.ex
  exact pe_callS F (hr.mono hk) hg hm kp b (fun σ pins H s u s' I q => rz pins σ H s u s' I q) ha hdb he hpl
theorem w_callB {sp : Sp} {t : TA} {σ : L2.St} {H : Hp} {Q : VK} (q : t σ H fun vs H1 => sp vs H1 Q W) : tCallS sp (fun _ => W) t σ H Q := q
end
end Co

set_option Elab.async false
set_option linter.all false
set_option maxRecDepth 100000
set_option maxHeartbeats 4000000
/-! an own error: its `__init__` says super().__init__(f"..") and keeps one field, a whole number -/
namespace PySem
namespace OwnL
open PySem.W PySem.Calls PyProof.Rows PySem.HandSPX
/-- `def __init__(self, part, code): super().__init__(f"part {part} has the fault {code}"); self.part = part; self.code = code` as it stands in the law's top -/
def iA : Arguments := { posonlyargs := [], args := [{ arg := "self", annotation := none, pos := ⟨70, 17, 70, 21⟩ }, { arg := "part", annotation := none, pos := ⟨70, 23, 70, 27⟩ }, { arg := "code", annotation := none, pos := ⟨70, 29, 70, 33⟩ }], vararg := none, kwonlyargs := [], kw_defaults := [], kwarg := none, defaults := [] }
def iJ : Expr := .JoinedStr [.Constant (.str "part ") 0 ⟨71, 27, 71, 32⟩, .FormattedValue (.Name "part" ⟨71, 33, 71, 37⟩) (-1) none ⟨71, 32, 71, 38⟩, .Constant (.str " has the fault ") 0 ⟨71, 38, 71, 53⟩, .FormattedValue (.Name "code" ⟨71, 54, 71, 58⟩) (-1) none ⟨71, 53, 71, 59⟩] ⟨71, 25, 71, 60⟩
def iB : List Stmt :=
  [.Expr (.Call (.Attribute (.Call (.Name "super" ⟨71, 8, 71, 13⟩) [] [] ⟨71, 8, 71, 15⟩) "__init__" ⟨71, 8, 71, 24⟩) [iJ] [] ⟨71, 8, 71, 61⟩) ⟨71, 8, 71, 61⟩, .Assign [.Attribute (.Name "self" ⟨72, 8, 72, 12⟩) "part" ⟨72, 8, 72, 17⟩] (.Name "part" ⟨72, 20, 72, 24⟩) ⟨72, 8, 72, 24⟩, .Assign [.Attribute (.Name "self" ⟨73, 8, 73, 12⟩) "code" ⟨73, 8, 73, 17⟩] (.Name "code" ⟨73, 20, 73, 24⟩) ⟨73, 8, 73, 24⟩]
def iS : Scope := { kind := .function, names := [(PySem.Str.ofString "self", .local), (PySem.Str.ofString "part", .local), (PySem.Str.ofString "code", .local), (PySem.Str.ofString "__class__", .free), (PySem.Str.ofString "super", .globalImplicit)], isGenerator := false, isCoroutine := false, more := [] }
/-- what the top has written of the class at C and of its `__init__` at fI -/
structure Txt (prog : Program) (K : Frag) (mg : Str → Option Value) (C fI : Addr) : Prop where
  gC : mg "LinkError" = some (.ref C)
  cls : ∃ nm q N bs bm sn sub ab col dd k0 k1 k2 k3 k5, K.lookup C = some (excClassObj nm q C N bs bm true sn sub ab col dd k0 k1 k2 k3 k5 "ValueError.__new__") ∧ refsVE bm = true
  sa : findIn K (.ref C) "__setattr__" = some (some (.builtin "object.__setattr__"))
  ga : findIn K (.ref C) "__getattribute__" = some (some (.builtin "BaseException.__getattribute__"))
  gg : findIn K (.ref C) "__getattr__" = some none
  noN : findIn K (.ref C) "part" = some none
  noM : findIn K (.ref C) "code" = some none
  iC : findIn K (.ref C) "__init__" = some (some (.ref fI))
  tC : typeIn K (.ref fI) = some (.type "function")
  kC : keepIn K (.ref C) = true
  exC : subIn K (.ref C) (.type "BaseException") = some true
  exV : subIn K (.ref C) (.type "ValueError") = some true
  tyC : typeIn K (.ref C) = some (.type "type")
  hdC : hasDictIn K C = true
  te : exmOne K (.ref C) (.ref C) = some true
  init : excInitIn K C [.type "ValueError", .type "Exception", .type "BaseException", .type "object"] "ValueError.__new__" = true
  sup : ks_superIn K C C "__init__" = some (some (.builtin "ValueError.__init__"))
  self : mroIn K C (.ref C) = some true
  third : nsIn K cStatics "thirdparty.any" = some none
  noS : mg "super" = none
  top : (prog.main.scope.names.lookup ("super" : Str)).isSome = false
  fn : ∃ (q : Str) (oc : Value) (od : Option Addr) (doc pm : Value) (an : Option Addr) (cda cc : Addr) (ct : Value) (osl : Array (Option Value)) (ccl cl : Value) (cdd cld : Option Addr) (vs : Array Value) (ccs csl : Array (Option Value)) (file : Str) (tf : Tok),
    K.lookup fI = some ⟨oc, od, .func (ksFn "__init__" q iA iB iS .none .none doc pm an (.ref cda) ct cc), osl⟩ ∧ codeIn K (.ref cda) q = true ∧
    K.lookup cda = some ⟨ccl, cdd, .fields vs, ccs⟩ ∧ vs[2]? = some (.str file tf) ∧ ((prog.main.file : Str) == file) = true ∧
    K.lookup cc = some ⟨cl, cld, .cell (some (.ref C)), csl⟩
/-- a made error -/
structure Made (h h' : Heap) (e C d : Addr) (v y : Value) : Prop where
  keep : ∀ b o, h.get? b = some o → h'.get? b = some o
  new : h.objs.size ≤ e
  obj : ∃ oe vs, h'.get? e = some oe ∧ oe.cls = .ref C ∧ oe.dict = some d ∧ oe.data = .fields vs ∧ vs[1]? = some .none
  dbig : h.objs.size ≤ d
  dne : d ≠ e
  ns : h'.Ns1 d (fun z => if z = "code" then some y else if z = "part" then some v else none)
section
variable {prog : Program} {w : World} {A : Around} {R : Result → Shared → Prop} {s : Shared} {K : Frag} {mg : Str → Option Value} {C fI : Addr}
theorem ld_local {M : Model} {env : Env} {x : Str} {pos : Pos} {v : Value} {m : Str → Option Value} {E : Value → Shared → Prop} {s : Shared} {Q : Value → Shared → Prop} (hk : env.scope.kind = .function) (hl : env.kindOf x = some .local) (hn : s.heap.Ns env.locals m) (hv : m x = some v) (hd : (x == ("__debug__" : Str)) = false) (h : Q v s) :
    wpAny M A (eval (.Name x pos) env) Q E s := wpAny_Name (wpAny_loadName_local hk hl hn hv h) hd
abbrev lcs (n : Int) (tn : Tok) (c : Str) (tc : Tok) (e : Addr) : Str → Option Value := fun x => List.lookup x [("code", .str c tc), ("part", .int n tn), ("self", .ref e)]
/-- the text of the error -/
theorem eval_J {env : Env} {n : Int} {tn : Tok} {c : Str} {tc : Tok} {m : Str → Option Value} {E : Value → Shared → Prop} {s : Shared} {Q : Value → Shared → Prop} (hk : env.scope.kind = .function) (hl : env.kindOf "part" = some .local) (hl2 : env.kindOf "code" = some .local) (hn : s.heap.Ns env.locals m) (hv : m "part" = some (.int n tn)) (hv2 : m "code" = some (.str c tc)) (hd : n.natAbs < 4294967296) (hcl : c.length ≤ 100)
    (q : ∀ y t k, Q (.str y t) { s with toks := k }) : wpAny (model prog w) A (eval iJ env) Q E s := by
  have z : (Co.dcT n).length ≤ 11 := Co.dcT_len hd
  have e1 : (("part " : Str)).length = 5 := by decide +kernel
  have e2 : ((" has the fault " : Str)).length = 15 := by decide +kernel
  have e0 : Str.empty.length = 0 := rfl
  have sz : sizeLine = 16777216 := sizeLine_eq
  refine wpAny_JoinedStr (wpAny_Constant_str ⟨_, _, rfl, by rw [Co.cat_len, e0, e1, sz]; decide, ?_⟩)
  refine wpAny_FormattedValue_plain (ld_local hk hl hn hv (by decide) (wpAny_formatField_int (Co.log_small hd) ⟨_, _, rfl, ?_, ?_⟩))
  · rw [Co.cat_len, Co.cat_len, e0, e1, sz]
    exact Nat.le_trans (Nat.add_le_add_left z _) (by decide)
  have l3 : ((Str.empty ++ ("part " : Str)) ++ Co.dcT n ++ (" has the fault " : Str)).length ≤ 31 := by
    rw [Co.cat_len, Co.cat_len, Co.cat_len, e0, e1, e2]
    omega
  refine wpAny_Constant_str ⟨_, _, rfl, Nat.le_trans l3 (by rw [sz]; decide), ?_⟩
  have l4 : (((Str.empty ++ ("part " : Str)) ++ Co.dcT n ++ (" has the fault " : Str)) ++ c).length ≤ sizeLine := by
    rw [Co.cat_len, sz]
    exact Nat.le_trans (Nat.add_le_add l3 hcl) (by decide)
  refine wpAny_FormattedValue_plain (ld_local hk hl2 hn hv2 (by decide) (wpAny_formatField_str ⟨_, _, rfl, l4, l4, q _ _ _⟩ ⟨_, _, rfl, l4, l4, q _ _ _⟩ (Nat.le_trans hcl (by rw [sz]; decide))))
/-- what `__init__` leaves of a fresh error at e -/
theorem init_run (T : Txt prog K mg C fI) {base h₀ : Heap} {e t0 : Addr} {n : Int} {tn : Tok} {c : Str} {tc : Tok} (md : L2.Mod K mg base) (kb : ∀ b o, base.get? b = some o → h₀.get? b = some o) (hroom : A.depth < recursionLimit) (hlim : s.heap.NoLimit)
    (k0 : ∀ b o, h₀.get? b = some o → s.heap.get? b = some o) (hsz : h₀.objs.size ≤ s.heap.objs.size) (he : s.heap.get? e = some (excO C t0)) (hne : h₀.get? e = none) (hd : n.natAbs < 4294967296) (hcd0 : c.length ≤ 100)
    (hq : ∀ h' tk dx t1, (∀ b o, h₀.get? b = some o → h'.get? b = some o) → h'.get? e = some { cls := .ref C, dict := some dx, data := .fields #[.ref t1, .none, .none, .none, .bool false, .none] } → h₀.objs.size ≤ dx → dx ≠ e →
      h'.Ns1 dx (fun y => if y = "code" then some (.str c tc) else if y = "part" then some (.int n tn) else none) → R (.ok (.ret .none)) { s with heap := h', toks := tk }) :
    codeAny (model prog w) A (.call (.ref fI) ⟨[.ref e, .int n tn, .str c tc], []⟩) R s := by
  obtain ⟨q, oc, od, doc, pm, an, cda, cc, ct, osl, ccl, cl, cdd, cld, vs, ccs, csl, file, tf, ho, hcd, hco, hvs, hfile, hcell⟩ := T.fn
  obtain ⟨nm, qn, N, bs, bm, sn, sub, ab, col, dd, k0', k1', k2', k3', k5', hC, hbm⟩ := T.cls
  have hcl : clsIn K C = some { name := nm, bases := bs, mro := .ref C :: bm, ns := N, qualname := qn, hasDict := true, slotNames := sn, subclasses := sub, abstract := ab, collection := col, hasDel := false } := by unfold clsIn; rw [hC] <;> rfl
  have X₀ : K.In h₀ := md.kin.keeps kb
  have X : K.In s.heap := X₀.keeps k0
  refine ks_codeAny_call_defAt (binds := [("self", .ref e), ("part", .int n tn), ("code", .str c tc)]) hroom (X _ _ ho) rfl hlim (codeRec_of X hcd) rfl (BindsTo.of_eq (by first | rfl | with_unfolding_all rfl)) (show ∀ x ∈ iS.names, x.2 ≠ NameKind.cell by decide) (by first | decide | (intro x hx; simp only [List.mem_cons, List.not_mem_nil, or_false] at hx; rcases hx with rfl | rfl | rfl <;> first | rfl | decide)) (fun h1 hns k1 => ?_)
  have F : Fr h₀ s.heap.objs.size h1 (lcs n tn c tc e) := ⟨hns, fun b o z => k1 b o (k0 b o z), hsz⟩
  have elt : e < s.heap.objs.size := Heap.lt_size he
  have N1 : News h₀ s.heap.objs.size h1 [(e, excObj C t0 none .none)] := by
    intro y hy
    obtain rfl := List.mem_singleton.mp hy
    exact ⟨k1 _ _ he, Nat.ne_of_lt elt, hne⟩
  show wpAt _ _ _ (execs iB (ksEnv q iS s.heap.objs.size fI (.ref cda) cc)) _ _ _
  refine ks_wpAt_execs_cons (ks_wpAt_Expr_any (ks_wpAt_MethodCall ?_))
  obtain ⟨hp, g, d, tk, os⟩ := s
  obtain ⟨mb, hb1, hb2⟩ := md.blt
  have kb1 : ∀ b o, base.get? b = some o → h1.get? b = some o := fun b o z => F.keep b o (kb b o z)
  have X1 : K.In h1 := X₀.keeps F.keep
  have I1 : InstAt h1 e (excO C t0) C none := ⟨k1 _ _ he, rfl, rfl, trivial⟩
  obtain ⟨oC, hC1⟩ : ∃ oC, K.lookup C = some oC ∧ oC.data = .cls { name := nm, bases := bs, mro := .ref C :: bm, ns := N, qualname := qn, hasDict := true, slotNames := sn, subclasses := sub, abstract := ab, collection := col, hasDel := false } := ⟨_, hC, rfl⟩
  refine ks_wpAt_super_base (env := ksEnv q iS hp.objs.size fI (.ref cda) cc) rfl rfl rfl rfl (X1 _ _ ho) rfl (ar := { arg := "self", annotation := none, pos := ⟨70, 17, 70, 21⟩ }) rfl rfl (X1 _ _ hco) rfl hvs hfile T.top ?_
  refine ks_loadName_global rfl rfl (loadGlobal_builtin (env := ksEnv q iS hp.objs.size fI (.ref cda) cc) (md.glob.keeps kb1) T.noS (hb1.keeps kb1) ((hb2 "super" (by decide)).trans (by kernel_rfl)) ⟨rfl, ?_⟩)
  refine wpAny_loadName_free rfl rfl rfl ⟨_, X1 _ _ hcell, rfl⟩ ?_
  refine wpAny_loadName_local rfl rfl F.ns (by rfl) ?_
  refine ks_wpAny_isType_cls (X1 _ _ hC1.1) hC1.2 ⟨rfl, ?_⟩
  refine ks_wpAny_call_super (X1 _ _ hC1.1) hC1.2 I1.at_ I1.cls (fun c z => by cases z) (looks_mroIn X1 T.self) (fun h2 e2 k2 => ?_)
  obtain ⟨F2, N2, l2⟩ := ks_newsPush (s := ⟨h1, g, d, tk, os⟩) F N1 rfl e2 k2
  have I2 : InstAt h2 e (excO C t0) C none := ⟨k2 _ _ I1.at_, rfl, rfl, trivial⟩
  refine kxs_method (x := e) (C := C) (D := C) (s := ⟨h2, g, d, _, os⟩) kxs_ValueError F2 X₀ N2 (List.mem_cons_self ..) I2 T.third T.sup T.exV (by decide) (fun q3 h3 F3 N3 l3 => ?_)
  refine kxs_callWith1 N3 (List.mem_cons_self ..) (spliced_more (eval_J (m := lcs n tn c tc e) rfl rfl rfl F3.ns (by rfl) (by rfl) hd hcd0 (fun y t k => spliced_none ⟨kxs_at N3 (List.mem_cons_self ..), ?_⟩)))
  have q3e : q3 ≠ e := Nat.ne_of_gt (l3 (e, excObj C t0 none .none) (List.mem_cons_of_mem _ (List.mem_cons_self ..)))
  have soe : h1.objs.size ≠ e := Nat.ne_of_gt (Heap.lt_size (k1 _ _ he))
  refine kxs_call (s := ⟨h3, g, d, _, os⟩) F3 X₀ N3 PySem.F.excBase_ValueError T.init (List.mem_cons_self ..) (.tail q3e (.tail soe (.head fun _ z => nomatch z))) (by rw [sizeLine_eq]; exact (by decide : 1 ≤ 16777216)) (fun t4 h4 F4 N4 l4 => ?_)
  have he4 : h4.get? e = some (excO C t4) := (N4 (e, excObj C t4 none .none) (by simp)).1
  have X4 : K.In h4 := X₀.keeps F4.keep
  show wpAt _ _ _ (execs [_, _] _) _ _ _
  refine wpAt_of_wpAny (wpAny_execs_cons (plainObj_wpAny_Assign_Attribute ?_))
  refine ld_local (m := lcs n tn c tc e) rfl rfl F4.ns (by rfl) (by decide) (ld_local (m := lcs n tn c tc e) rfl rfl F4.ns (by rfl) (by decide) ?_)
  refine set_plain X4 (ox := excO C t4) (od := none) ⟨he4, rfl, rfl, trivial⟩ T.sa ?_
  refine exc_osa X4 he4 hcl (show refsVE (.ref C :: bm) = true from hbm) rfl T.noN (fun h5 tk5 dx k5 dn dne hx5 hn5 => ?_)
  have hsz4 : h₀.objs.size ≤ h4.objs.size := Nat.le_trans F4.above (Nat.le_of_lt F4.ns.lt)
  have k50 : ∀ b o, h₀.get? b = some o → h5.get? b = some o := fun b o z => k5 b o (fun y => by rw [y, hne] at z; cases z) (F4.keep b o z)
  have X5 : K.In h5 := X₀.keeps k50
  have neL : hp.objs.size ≠ e := Nat.ne_of_gt elt
  have N5 : h5.Ns hp.objs.size (lcs n tn c tc e) := F4.ns.at (fun o z => k5 _ o neL z)
  obtain ⟨oD, esD, epD, hoD, hdD, _⟩ := hn5.count (ns := ["part"]) (fun y hy => by
    by_cases z : y = "part"
    · exact List.mem_singleton.mpr z
    · rw [if_neg z] at hy; exact absurd rfl hy)
  refine wpAny_execs_cons (plainObj_wpAny_Assign_Attribute ?_)
  refine ld_local (m := lcs n tn c tc e) rfl rfl N5 (by rfl) (by decide) (ld_local (m := lcs n tn c tc e) rfl rfl N5 (by rfl) (by decide) ?_)
  refine set_plain X5 (ox := { cls := .ref C, dict := some dx, data := .fields #[.ref t4, .none, .none, .none, .bool false, .none] }) (od := some oD) ⟨hx5, rfl, rfl, hoD⟩ T.sa ?_
  refine PySem.OEX.osa_old X5 hx5 hn5 (nl := ["part"]) (fun y hy => by
    by_cases z : y = "part"
    · exact List.mem_singleton.mpr z
    · rw [if_neg z] at hy; exact absurd rfl hy) (by decide) hcl (show refsVE (.ref C :: bm) = true from hbm) rfl T.noM (fun h6 tk6 k6 hn6 => ?_)
  have dx0 : ∀ b o, h₀.get? b = some o → b ≠ dx := fun b o z y => by
    have := Heap.lt_size z
    rw [y] at this
    exact Nat.lt_irrefl _ (Nat.lt_of_lt_of_le this (Nat.le_trans hsz4 dn))
  exact wpAny_execs_nil (hq h6 tk6 dx t4 (fun b o z => k6 b o (dx0 b o z) (k50 b o z)) (k6 _ _ dne.symm hx5) (Nat.le_trans hsz4 dn) dne hn6)
theorem made (T : Txt prog K mg C fI) {base : Heap} {n : Int} {tn : Tok} {c : Str} {tc : Tok} (md : L2.Mod K mg base) (kb : ∀ b o, base.get? b = some o → s.heap.get? b = some o) (hlim : s.heap.NoLimit) (hroom : A.depth + 1 < recursionLimit) (hd : n.natAbs < 4294967296) (hcd0 : c.length ≤ 100)
    (hq : ∀ h' tk e d, Made s.heap h' e C d (.int n tn) (.str c tc) → R (.ok (.ret (.ref e))) { s with heap := h', toks := tk }) :
    codeAny (model prog w) A (.call (.ref C) ⟨[.int n tn, .str c tc], []⟩) R s := by
  obtain ⟨nm, q, N, bs, bm, sn, sub, ab, col, dd, k0, k1, k2, k3, k5, hC, hbm⟩ := T.cls
  have X : K.In s.heap := md.kin.keeps kb
  obtain ⟨hp, g, dr, tk, os⟩ := s
  have k : ∀ b o, (hp.push (kdv_tup [.int n tn, .str c tc])).get? b = some o → ((hp.push (kdv_tup [.int n tn, .str c tc])).push (excO C hp.objs.size)).get? b = some o := fun b o e => Heap.get?_push_of_some _ e
  have kh : ∀ b o, hp.get? b = some o → (hp.push (kdv_tup [.int n tn, .str c tc])).get? b = some o := fun b o e => Heap.get?_push_of_some _ e
  have hget : ((hp.push (kdv_tup [.int n tn, .str c tc])).push (excO C hp.objs.size)).get? (hp.objs.size + 1) = some (excO C hp.objs.size) := by heap_get
  have s0 : (hp.push (kdv_tup [.int n tn, .str c tc])).objs.size = hp.objs.size + 1 := Heap.size_push ..
  have hne : (hp.push (kdv_tup [.int n tn, .str c tc])).get? (hp.objs.size + 1) = none := by
    cases z : (hp.push (kdv_tup [.int n tn, .str c tc])).get? (hp.objs.size + 1) with
    | none => rfl
    | some o => exact absurd (Heap.lt_size z) (by rw [s0]; exact Nat.lt_irrefl _)
  refine call_own F.excBase_ValueError (fun X => refsVE_contains X bm hbm) (X _ _ hC) (looks_findIn X T.iC) (fun self => bind_fn X self T.tC) (by rw [sizeLine_eq]; exact (by decide : 2 ≤ 16777216)) ?_
  refine init_run (s := ⟨(hp.push (kdv_tup [.int n tn, .str c tc])).push (excO C hp.objs.size), g, dr, tk, os⟩) (h₀ := hp.push (kdv_tup [.int n tn, .str c tc])) T md (fun b o z => kh b o (kb b o z)) ?_ ((hlim.keeps kh).keeps k) k (by show _ ≤ ((hp.push _).push _).objs.size; rw [Heap.size_push (h := hp.push _)]; exact Nat.le_succ _) hget hne hd hcd0 (fun h' tk' dx t1 k' hx dn dne hns => ?_)
  · show A.depth + 1 < recursionLimit
    exact hroom
  · refine ⟨rfl, hq h' tk' (hp.objs.size + 1) dx ⟨fun b o e => k' b o (kh b o e), Nat.le_succ _, ⟨_, _, hx, rfl, rfl, rfl, rfl⟩, ?_, dne, hns⟩⟩
    rw [s0] at dn
    exact Nat.le_trans (Nat.le_succ _) dn
end
end OwnL
end PySem
namespace Co
open PySem PySem.Spec PyProof.Rows L2
theorem relO_two {f f2 : Str} {v v2 : V} {u u2 : Value} (r : RelV v u) (r2 : RelV v2 u2) (g : Str) : RelO (List.lookup g [(f2, v2), (f, v)]) (if g = f2 then some u2 else if g = f then some u else none) := by
  by_cases h2 : g = f2
  · subst h2
    rw [if_pos rfl]
    have z : List.lookup g [(g, v2), (f, v)] = some v2 := by simp [List.lookup]
    rw [z]
    exact r2
  · rw [if_neg h2]
    have z2 : (g == f2) = false := by simpa using h2
    by_cases h : g = f
    · subst h
      rw [if_pos rfl]
      have z : List.lookup g [(f2, v2), (g, v)] = some v := by simp [List.lookup, z2]
      rw [z]
      exact r
    · rw [if_neg h]
      have z3 : (g == f) = false := by simpa using h
      have z : List.lookup g [(f2, v2), (f, v)] = none := by simp [List.lookup, z2, z3]
      rw [z]
      trivial
/-- the error's own dict -/
abbrev LkX (n : Int) (c : Str) : HO := .xd [(("code" : Str), .str c), (("part" : Str), .int n)]
section
variable {X : Cx} {C fI : Addr}
/-- LinkError(part, code) -/
def tMkL (C : Addr) (ta : TA) : L2.St → Hp → XK → Prop := fun σ H Q => ta σ H fun vs H1 => ∃ (n : Int) (c : Str), vs = [.int n, .str c] ∧ n.natAbs < 4294967296 ∧ c.length ≤ 100 ∧ ∀ d, H1 d = none → Q (.ref C) (some d) (upd H1 d (LkX n c))
theorem pmk_L {a b : Expr} {ta : TA} {p pos : Pos} {k : Nat} (T : OwnL.Txt X.prog X.K X.mg C fI) (hr : Room k X.A) (ha : PA X [a, b] ta) (hg : Gl X "LinkError" := by rfl)
    (he : starEach (a :: [b]) X.env = (false, eval a X.env) :: starEach [b] X.env := by rfl) (hpl : (backTo pos (starEach [b] X.env)).any (·.1) = false := by rfl) :
    PMk X (.Call (.Name "LinkError" p) [a, b] [] pos) (tMkL C ta) := by
  intro pins s σ H Q I h
  refine wpAny_Call_Name_kw (ld_glob I hg T.gC ?_)
  refine PySem.W.callWith_K (h₀ := X.base) I.ok.mod.kin T.kC (thn (ha.run pos pins s σ H _ I h) fun us s1 hh => ?_) he hpl
  obtain ⟨vs, H1, I1, r1, n, c, ev, hn, hcc, q1⟩ := hh
  subst ev
  refine ⟨I1.kIn, ?_⟩
  cases r1 with
  | cons rv rn =>
    rename_i v' us'
    cases rn with
    | cons rv2 rn2 =>
    rename_i v2 us2
    cases rn2
    obtain ⟨tn, rfl⟩ := rv
    obtain ⟨tc, rfl⟩ := rv2
    show wpAny _ _ (call (.ref C) [.int n tn, .str c tc]) _ _ _
    have hlim := I1.nolimit
    have hbk := I1.bk
    obtain ⟨hp, g, dr, tk, os⟩ := s1
    refine wpAny_call (OwnL.made T I1.ok.mod hbk hlim (by have := hr.dp; omega) hn hcc fun h' tk' e d M => ?_)
    show MkP X pins σ Q (.ref e) ⟨h', g, dr, tk', os⟩
    obtain ⟨oe, fv, hoe, hc, hd, hdat, h1⟩ := M.obj
    have hns := M.ns
    obtain ⟨G', g1, g2⟩ := restrict h' fun b => decide (b ≠ e)
    have gk : ∀ b, b ≠ e → G'.get? b = h'.get? b := fun b hb => g1 b (decide_eq_true hb)
    have ge : G'.get? e = none := g2 e (by simp)
    have old : ∀ b o, hp.get? b = some o → G'.get? b = some o := fun b o q => (gk b (Nat.ne_of_lt (Nat.lt_of_lt_of_le (Heap.lt_size q) M.new))).trans (M.keep b o q)
    have ob : ObjOk X.prog X.w (upd H1 d (LkX n c)) G' d (LkX n c) :=
      ⟨_, hns.at (fun o q => (gk d M.dne).trans q), fun f => relO_two (f := "part") (f2 := "code") (v := .int n) (u := .int n tn) (v2 := .str c) (u2 := .str c tc) ⟨tn, rfl⟩ ⟨tc, rfl⟩ f⟩
    have J : Inv X pins σ (upd H1 d (LkX n c)) ⟨G', g, dr, tk', os⟩ := I1.laid (t' := tk') old M.dbig ob
    refine ⟨e, oe, fv, ⟨G', g, dr, tk', os⟩, _, .ref C, some d, rfl, J, fun b o q => ?_, ge, hoe, ⟨hc, hd⟩, hdat, h1, ?_, rfl, I1.bare, raises_own T.exC T.tyC, q1 d (I1.hok.fresh M.dbig)⟩
    · by_cases hb : b = e
      · have q' : G'.get? b = some o := q
        rw [hb, ge] at q'; cases q'
      · exact (gk b hb).symm.trans q
    · rw [upd_ne (Ne.symm M.dne)]
      exact I1.hok.fresh M.new
/-- raise LinkError(part, code) -/
def tRaiseL (C : Addr) (W : WX) (ta : TA) : TS := fun _ σ H => tMkL C ta σ H fun cls d H' => W cls d σ H'
theorem ps_raiseL {a b : Expr} {ta : TA} {W : WX} {p pos pos2 : Pos} {k : Nat} (hc : X.calm = true) (T : OwnL.Txt X.prog X.K X.mg C fI) (hr : Room k X.A) (tk : Takes X W) (ha : PA X [a, b] ta) (hg : Gl X "LinkError" := by rfl)
    (he : starEach (a :: [b]) X.env = (false, eval a X.env) :: starEach [b] X.env := by rfl) (hpl : (backTo pos (starEach [b] X.env)).any (·.1) = false := by rfl) :
    PS X (.Raise (some (.Call (.Name "LinkError" p) [a, b] [] pos)) none pos2) (tRaiseL C W ta) := ps_raise hc tk (pmk_L T hr ha hg he hpl)
/-- error.FLD, error the exception that the suite holds (at a; its class cls, its dict d) -/
def tFldL (C : Addr) (a : Addr) (cls : Value) (d : Option Addr) (f : Str) (te : TE) : TE := fun σ H Q => te σ H fun x H1 => x = .ref a ∧ cls = .ref C ∧ ∃ (dd : Addr) (n : Int) (c : Str) (v : V), d = some dd ∧ H1 dd = some (LkX n c) ∧ List.lookup f [(("code" : Str), V.str c), (("part" : Str), V.int n)] = some v ∧ Q v H1
theorem pe_fldL {a : Addr} {oe : Obj} {cls : Value} {d : Option Addr} {pn : List (Addr × Obj)} {e : Expr} {te : TE} {pos : Pos} {f : Str} (hno : PySem.W.findIn X.K (.ref C) f = some none) (T : OwnL.Txt X.prog X.K X.mg C fI) (hz : Zc cls d oe) (hf : ∃ vs, oe.data = .fields vs) (he : PE (X.suite a ((a, oe) :: pn)) e te)
    (hb : attributeBase e f X.env (eval e X.env) = eval e X.env := by rfl) :
    PE (X.suite a ((a, oe) :: pn)) (.Attribute e f pos) (tFldL C a cls d f te) := by
  refine ⟨fun pins s σ H Q I h => ?_⟩
  refine attr_of hb (thn (he.run pins s σ H _ I h) fun u s1 hh => ?_)
  obtain ⟨x, H1, I1, rx, ex, ec, dd, n, c, v, ed, ea, l, q⟩ := hh
  subst ex
  obtain rfl : u = Value.ref a := rx
  subst ec
  subst ed
  obtain ⟨ha, _⟩ := I1.pin (a, oe) (List.mem_append_left _ List.mem_cons_self)
  obtain ⟨vs, hd⟩ := hf
  have hx : ObjOk X.prog X.w H1 s1.heap dd (LkX n c) := I1.hok dd _ ea
  obtain ⟨mA, hns, hr⟩ := hx
  obtain ⟨od, ho, hl⟩ := lookIn_ns hns
  obtain ⟨u, hu, ru⟩ := RelO.some_of (v := v) (o := mA f) (by rw [← l]; exact hr f)
  have J : PySem.W.InstAt s1.heap a oe C (some od) := ⟨ha, hz.1, by unfold PySem.W.notCls; rw [hd] <;> rfl, by rw [hz.2]; exact ho⟩
  exact HandSPX.exc_get I1.kIn J T.ga T.gg T.exC (PySem.W.findObj_own T.hdC hno rfl (by rw [hl, hu])) (handed_of ru) ⟨v, H1, I1.tok _, ru, q⟩
end
end Co

set_option Elab.async false
set_option linter.all false
set_option maxRecDepth 100000
set_option maxHeartbeats 4000000
namespace Co
open PySem PySem.Spec PyProof.Rows L2
/-! ### the next pair of a zip of two lists, whatever became of the pair ahead of it -/
abbrev ZipRec (h : Heap) (z TI TO : Addr) (x0 : Value) (f : Bool) : Prop := h.get? z = some { cls := .type "zip", dict := none, data := .fields #[x0, .bool f, .bool false, .ref TI, .ref TO], slots := #[] }
def ZAny (h : Heap) (z TI TO : Addr) : Prop := ∃ x0 f, ZipRec h z TI TO x0 f ∧ ((x0 = .none ∧ f = false) ∨ ∃ T : Addr, x0 = rawInt T)
section
variable {prog : Program} {w : World} {A : Around} {E : Value → Shared → Prop} {s : Shared} {z TI TO i1 i2 l1 l2 : Addr} {x0 : Value} {f : Bool} {a1 a2 x y : Value} {xs ys : Array Value} {i : Nat}
def Free0 (x0 : Value) (h : Heap) : Prop := x0 = .none ∨ ∃ T : Addr, x0 = rawInt T ∧ h.get? T = none
theorem own_free {Q : Bool → Shared → Prop} (hz : ZipRec s.heap z TI TO x0 f) (fr : Free0 x0 s.heap) (q : Q true s) : wpAny (model prog w) A (Builtin.SmallTypes.ownedTupleIsFree (.ref z)) Q E s := by
  unfold Builtin.SmallTypes.ownedTupleIsFree
  rcases fr with rfl | ⟨T, rfl, hT⟩
  · exact wpAny_bind (wpAny_field hz rfl (x := .none) rfl (wpAny_pure q))
  · refine wpAny_bind (wpAny_field hz rfl (x := rawInt T) rfl ?_)
    show wpAny _ _ (loadIfAlive ((T : Int).toNat) >>= _) _ _ _
    rw [Int.toNat_natCast]
    refine wpAny_bind ?_
    have go : ∀ {R : Option Obj → Shared → Prop}, R none s → wpAny (model prog w) A (loadIfAlive T) R E s := fun {R} r => by
      have r' : R (s.heap.get? T) s := by rw [hT]; exact r
      exact fun _ _ _ => r'
    refine go ?_
    simp only [Option.isNone_none, if_true]
    exact wpAny_pure q
theorem zip_free_item {Q : Value → Shared → Prop} (D : ZipApart z TI TO i1 i2 l1 l2) (hz : ZipRec s.heap z TI TO x0 f) (fr : Free0 x0 s.heap) (hTI : IsPair s.heap TI (.ref i1) (.ref i2)) (hTO : IsPair s.heap TO a1 a2) (h1 : s.heap.IsListIter i1 l1 i) (h2 : s.heap.IsListIter i2 l2 i) (k1 : s.heap.IsList l1 xs) (k2 : s.heap.IsList l2 ys) (hx : xs[i]? = some x) (hy : ys[i]? = some y)
    (q : ∀ h', ZipRec h' z TI TO (rawInt s.heap.objs.size) false → IsPair h' TO x y → h'.IsListIter i1 l1 (i + 1) → h'.IsListIter i2 l2 (i + 1) → IsPair h' s.heap.objs.size x y → h'.objs.size = s.heap.objs.size + 1 → (∀ c o, c ≠ z → c ≠ TO → c ≠ i1 → c ≠ i2 → s.heap.get? c = some o → h'.get? c = some o) → Q (.ref s.heap.objs.size) { s with heap := h' }) :
    wpAny (model prog w) A (Builtin.«zip.__next__» ⟨[.ref z], []⟩) (fun fin s' => ∃ v, fin = .done (.ret v) ∧ Q v s') E s := by
  obtain ⟨hp, g, d, tk, os⟩ := s
  show wpAny _ _ (field (.ref z) 2 >>= _) _ _ _
  refine wpAny_bind (wpAny_field hz rfl (x := .bool false) rfl ?_)
  show wpAny _ _ (field (.ref z) 3 >>= _) _ _ _
  refine wpAny_bind (wpAny_field hz rfl (x := .ref TI) rfl (wpAny_bind (wpAny_seqItems hTI rfl ?_)))
  show wpAny _ _ (Builtin.SmallTypes.ownedTupleIsFree (.ref z) >>= _) _ _ _
  refine wpAny_bind (own_free hz fr ?_)
  simp only [if_true]
  refine wpAny_bind (wpAny_rule (wpAny_bind (wpAny_field hz rfl (x := .ref TO) rfl (wpAny_bind (wpAny_setField_rec hz (by simp) fun g0 z0 s0 => ?_)))))
  replace z0 : ZipRec g0 z TI TO .ellipsis f := z0
  replace s0 : Heap.SameBut z hp g0 := s0
  refine wpAny_bind ?_
  simp only [List.zipIdx_cons, List.zipIdx_nil, List.forIn_cons, List.forIn_nil]
  refine wpAny_bind (wpAny_bind (wpAny_onRaise ?_))
  show wpAny _ _ (Builtin.SmallTypes.nextOf (.ref i1) >>= _) _ _ ⟨g0, g, d, tk, os⟩
  refine wpAny_bind (wpAny_nextOf_list_item (s := ⟨g0, g, d, tk, os⟩) (h1.extBut s0.extBut D.i1z) (k1.extBut s0.extBut D.l1z) hx fun p1 m1 t1 => wpAny_pure ?_)
  replace t1 : Heap.SameBut i1 g0 p1 := t1
  have u1 : IsPair p1 TO a1 a2 := t1.extBut _ _ D.TOi1 (s0.extBut _ _ D.TOz hTO)
  refine wpAny_bind (wpAny_seqItems (s := ⟨p1, g, d, tk, os⟩) u1 rfl (wpAny_bind (updateSeq_IsTupOf2 (s := ⟨p1, g, d, tk, os⟩) u1 fun g1 T1 s1 => ?_)))
  replace T1 : IsPair g1 TO x a2 := T1
  replace s1 : Heap.SameBut TO p1 g1 := s1
  refine wpAny_bind (wpAny_letGo (wpAny_pure (wpAny_bind (wpAny_bind (wpAny_onRaise ?_)))))
  show wpAny _ _ (Builtin.SmallTypes.nextOf (.ref i2) >>= _) _ _ ⟨g1, g, d, tk, os⟩
  have h2' : g1.IsListIter i2 l2 i := ((h2.extBut s0.extBut D.i2z).extBut t1.extBut D.i12.symm).extBut s1.extBut D.TOi2.symm
  have k2' : g1.IsList l2 ys := ((k2.extBut s0.extBut D.l2z).extBut t1.extBut D.l2i1).extBut s1.extBut D.l2TO
  refine wpAny_bind (wpAny_nextOf_list_item (s := ⟨g1, g, d, tk, os⟩) h2' k2' hy fun p2 m2 t2 => wpAny_pure ?_)
  replace t2 : Heap.SameBut i2 g1 p2 := t2
  have u2 : IsPair p2 TO x a2 := t2.extBut _ _ D.TOi2 T1
  refine wpAny_bind (wpAny_seqItems (s := ⟨p2, g, d, tk, os⟩) u2 rfl (wpAny_bind (updateSeq_IsTupOf2 (s := ⟨p2, g, d, tk, os⟩) u2 fun g2 T2 s2 => ?_)))
  replace T2 : IsPair g2 TO x y := T2
  replace s2 : Heap.SameBut TO p2 g2 := s2
  refine wpAny_bind (wpAny_letGo (wpAny_pure (wpAny_pure (wpAny_bind (wpAny_seqItems (s := ⟨g2, g, d, tk, os⟩) T2 rfl (wpAny_bind (wpAny_newTuple ?_)))))))
  have hsz : g2.objs.size = hp.objs.size := by rw [s2.1, t2.1, s1.1, t1.1, s0.1]
  have zz : ZipRec g2 z TI TO .ellipsis f := s2.extBut _ _ D.TOz.symm (t2.extBut _ _ D.i2z.symm (s1.extBut _ _ D.TOz.symm (t1.extBut _ _ D.i1z.symm z0)))
  have kk : ∀ c o, c ≠ z → c ≠ TO → c ≠ i1 → c ≠ i2 → hp.get? c = some o → g2.get? c = some o := fun c o cz cT c1 c2 e =>
    s2.extBut _ _ cT (t2.extBut _ _ c2 (s1.extBut _ _ cT (t1.extBut _ _ c1 (s0.extBut _ _ cz e))))
  have j1 : g2.IsListIter i1 l1 (i + 1) := ((m1.extBut s1.extBut D.TOi1.symm).extBut t2.extBut D.i12).extBut s2.extBut D.TOi1.symm
  have j2 : g2.IsListIter i2 l2 (i + 1) := m2.extBut s2.extBut D.TOi2.symm
  have zlt : z < g2.objs.size := Heap.lt_size zz
  show wpAny _ _ (Builtin.SmallTypes.ownedTupleHandOut (.ref z) (.ref g2.objs.size) >>= _) _ _ ⟨g2.push { cls := .type "tuple", data := .seq #[x, y] }, g, d, tk, os⟩
  refine wpAny_bind ?_
  unfold Builtin.SmallTypes.ownedTupleHandOut
  have z6 : ZipRec (g2.push { cls := .type "tuple", data := .seq #[x, y] }) z TI TO .ellipsis f := Heap.get?_push_of_some _ zz
  refine wpAny_bind (wpAny_setField_rec z6 (by simp) fun h7 z7 s7 => ?_)
  replace z7 : ZipRec h7 z TI TO (rawInt g2.objs.size) f := z7
  refine wpAny_setField_rec z7 (by simp) fun h8 z8 s8 => ?_
  replace z8 : ZipRec h8 z TI TO (rawInt g2.objs.size) false := z8
  replace s7 : Heap.SameBut z (g2.push { cls := .type "tuple", data := .seq #[x, y] }) h7 := s7
  replace s8 : Heap.SameBut z h7 h8 := s8
  have up : ∀ c o, c ≠ z → g2.get? c = some o → h8.get? c = some o := fun c o c1 e => s8.extBut _ _ c1 (s7.extBut _ _ c1 (Heap.get?_push_of_some _ e))
  have T8 : IsPair h8 g2.objs.size x y := s8.extBut _ _ (Nat.ne_of_gt zlt) (s7.extBut _ _ (Nat.ne_of_gt zlt) (Heap.get?_push_size _ rfl))
  have sz8 : h8.objs.size = g2.objs.size + 1 := by rw [s8.1, s7.1, Heap.size_push]
  rw [hsz] at z8 T8 sz8
  refine wpAny_pure ⟨_, rfl, ?_⟩
  show Q (.ref g2.objs.size) ⟨h8, g, d, tk, os⟩
  rw [hsz]
  exact q h8 z8 (up _ _ D.TOz T2) (j1.at fun o e => up _ o D.i1z e) (j2.at fun o e => up _ o D.i2z e) T8 sz8 fun c o cz cT c1 c2 e => up c o cz (kk c o cz cT c1 c2 e)
theorem zip_free_end {Q : Fin → Shared → Prop} (hh : A.handled = none) (D : ZipApart z TI TO i1 i2 l1 l2) (hz : ZipRec s.heap z TI TO x0 f) (fr : Free0 x0 s.heap) (hTI : IsPair s.heap TI (.ref i1) (.ref i2)) (hTO : IsPair s.heap TO a1 a2) (h1 : s.heap.IsListIter i1 l1 i) (h2 : s.heap.IsListIter i2 l2 i) (k1 : s.heap.IsList l1 xs) (k2 : s.heap.IsList l2 ys) (he : xs[i]? = none ∨ ys[i]? = none)
    (q : ∀ h' e, (∀ c o, c ≠ z → c ≠ TO → c ≠ i1 → c ≠ i2 → s.heap.get? c = some o → h'.get? c = some o) → (∃ o, h'.get? e = some o ∧ o.cls = .type "StopIteration") → E (.ref e) { s with heap := h' }) :
    wpAny (model prog w) A (Builtin.«zip.__next__» ⟨[.ref z], []⟩) Q E s := by
  obtain ⟨hp, g, d, tk, os⟩ := s
  show wpAny _ _ (field (.ref z) 2 >>= _) _ _ _
  refine wpAny_bind (wpAny_field hz rfl (x := .bool false) rfl ?_)
  show wpAny _ _ (field (.ref z) 3 >>= _) _ _ _
  refine wpAny_bind (wpAny_field hz rfl (x := .ref TI) rfl (wpAny_bind (wpAny_seqItems hTI rfl ?_)))
  show wpAny _ _ (Builtin.SmallTypes.ownedTupleIsFree (.ref z) >>= _) _ _ _
  refine wpAny_bind (own_free hz fr ?_)
  simp only [if_true]
  refine wpAny_bind (wpAny_rule (wpAny_bind (wpAny_field hz rfl (x := .ref TO) rfl (wpAny_bind (wpAny_setField_rec hz (by simp) fun g0 z0 s0 => ?_)))))
  replace z0 : ZipRec g0 z TI TO .ellipsis f := z0
  replace s0 : Heap.SameBut z hp g0 := s0
  refine wpAny_bind ?_
  simp only [List.zipIdx_cons, List.zipIdx_nil, List.forIn_cons, List.forIn_nil]
  refine wpAny_bind (wpAny_bind (wpAny_onRaise ?_))
  show wpAny _ _ (Builtin.SmallTypes.nextOf (.ref i1) >>= _) _ _ ⟨g0, g, d, tk, os⟩
  cases hx : xs[i]? with
  | none =>
    refine wpAny_bind (wpAny_nextOf_list_end (s := ⟨g0, g, d, tk, os⟩) hh (h1.extBut s0.extBut D.i1z) (k1.extBut s0.extBut D.l1z) hx fun p e hq he => ?_)
    replace hq : Heap.ExtBut i1 g0 p := hq
    obtain ⟨oe, hoe, hce⟩ := he
    replace hoe : p.get? e = some oe := hoe
    have zq : ZipRec p z TI TO .ellipsis f := hq _ _ D.i1z.symm z0
    have ez : e ≠ z := fun x => by subst x; rw [zq] at hoe; cases hoe; simp at hce
    refine wpAny_setField_rec (s := ⟨p, g, d, tk, os⟩) zq (by simp) fun p' _ hq' => ?_
    replace hq' : Heap.SameBut z p p' := hq'
    exact q p' e (fun c o cz cT c1 c2 y => hq'.extBut _ _ cz (hq _ _ c1 (s0.extBut _ _ cz y))) ⟨oe, hq'.extBut _ _ ez hoe, hce⟩
  | some x =>
    have hy : ys[i]? = none := by
      rcases he with e | e
      · rw [hx] at e; cases e
      · exact e
    refine wpAny_bind (wpAny_nextOf_list_item (s := ⟨g0, g, d, tk, os⟩) (h1.extBut s0.extBut D.i1z) (k1.extBut s0.extBut D.l1z) hx fun p1 m1 t1 => wpAny_pure ?_)
    replace t1 : Heap.SameBut i1 g0 p1 := t1
    have u1 : IsPair p1 TO a1 a2 := t1.extBut _ _ D.TOi1 (s0.extBut _ _ D.TOz hTO)
    refine wpAny_bind (wpAny_seqItems (s := ⟨p1, g, d, tk, os⟩) u1 rfl (wpAny_bind (updateSeq_IsTupOf2 (s := ⟨p1, g, d, tk, os⟩) u1 fun g1 T1 s1 => ?_)))
    replace s1 : Heap.SameBut TO p1 g1 := s1
    refine wpAny_bind (wpAny_letGo (wpAny_pure (wpAny_bind (wpAny_bind (wpAny_onRaise ?_)))))
    show wpAny _ _ (Builtin.SmallTypes.nextOf (.ref i2) >>= _) _ _ ⟨g1, g, d, tk, os⟩
    have h2' : g1.IsListIter i2 l2 i := ((h2.extBut s0.extBut D.i2z).extBut t1.extBut D.i12.symm).extBut s1.extBut D.TOi2.symm
    have k2' : g1.IsList l2 ys := ((k2.extBut s0.extBut D.l2z).extBut t1.extBut D.l2i1).extBut s1.extBut D.l2TO
    refine wpAny_bind (wpAny_nextOf_list_end (s := ⟨g1, g, d, tk, os⟩) hh h2' k2' hy fun p e hq he => ?_)
    replace hq : Heap.ExtBut i2 g1 p := hq
    obtain ⟨oe, hoe, hce⟩ := he
    replace hoe : p.get? e = some oe := hoe
    have zq : ZipRec p z TI TO .ellipsis f := hq _ _ D.i2z.symm (s1.extBut _ _ D.TOz.symm (t1.extBut _ _ D.i1z.symm z0))
    have ez : e ≠ z := fun x => by subst x; rw [zq] at hoe; cases hoe; simp at hce
    refine wpAny_setField_rec (s := ⟨p, g, d, tk, os⟩) zq (by simp) fun p' _ hq' => ?_
    replace hq' : Heap.SameBut z p p' := hq'
    exact q p' e (fun c o cz cT c1 c2 y => hq'.extBut _ _ cz (hq _ _ c2 (s1.extBut _ _ cT (t1.extBut _ _ c1 (s0.extBut _ _ cz y))))) ⟨oe, hq'.extBut _ _ ez hoe, hce⟩
/-- .. by the zip's own next -/
theorem zipA_item {Q : Value → Shared → Prop} (D : ZipApart z TI TO i1 i2 l1 l2) (hz : ZAny s.heap z TI TO) (hTI : IsPair s.heap TI (.ref i1) (.ref i2)) (hTO : IsPair s.heap TO a1 a2) (h1 : s.heap.IsListIter i1 l1 i) (h2 : s.heap.IsListIter i2 l2 i) (k1 : s.heap.IsList l1 xs) (k2 : s.heap.IsList l2 ys) (hx : xs[i]? = some x) (hy : ys[i]? = some y)
    (q : ∀ h', ZAny h' z TI TO → (∃ b1 b2, IsPair h' TO b1 b2) → h'.IsListIter i1 l1 (i + 1) → h'.IsListIter i2 l2 (i + 1) → IsPair h' s.heap.objs.size x y → h'.objs.size = s.heap.objs.size + 1 → (∀ c o, c ≠ z → c ≠ TO → c ≠ i1 → c ≠ i2 → s.heap.get? c = some o → h'.get? c = some o) → Q (.ref s.heap.objs.size) { s with heap := h' }) :
    wpAny (model prog w) A (Builtin.SmallTypes.nextOf (.ref z)) Q E s := by
  obtain ⟨x0, f, hz, hx0⟩ := hz
  have hT : s.TypeIs (.ref z) "zip" := ⟨_, hz, rfl⟩
  unfold Builtin.SmallTypes.nextOf
  refine wpAny_bind (wpAny_callSpecial?_slot (name := Str.ofString "__next__") hT F.slot_zip_next (wpAny_call_entry F.slot_zip_next hT F.entry_zip_next ?_ (F.args_zip_next_1 _)))
  by_cases fr : Free0 x0 s.heap
  · exact zip_free_item D hz fr hTI hTO h1 h2 k1 k2 hx hy fun h' a b c d e g k => wpAny_pure (q h' ⟨_, _, a, .inr ⟨_, rfl⟩⟩ ⟨_, _, b⟩ c d e g k)
  · rcases hx0 with ⟨rfl, _⟩ | ⟨T, rfl⟩
    · exact absurd (.inl rfl) fr
    · cases hT2 : s.heap.get? T with
      | none => exact absurd (.inr ⟨T, rfl, hT2⟩) fr
      | some oT =>
        exact zip_next_item_held D hz hT2 hTI h1 h2 k1 k2 hx hy fun h' a c d e g k => wpAny_pure (q h' ⟨_, _, a, .inr ⟨_, rfl⟩⟩ ⟨_, _, k _ _ D.TOz D.TOi1 D.TOi2 hTO⟩ c d e g fun c' o c1 _ c3 c4 => k c' o c1 c3 c4)
theorem zipA_end {Q : Value → Shared → Prop} (hh : A.handled = none) (D : ZipApart z TI TO i1 i2 l1 l2) (hz : ZAny s.heap z TI TO) (hTI : IsPair s.heap TI (.ref i1) (.ref i2)) (hTO : IsPair s.heap TO a1 a2) (h1 : s.heap.IsListIter i1 l1 i) (h2 : s.heap.IsListIter i2 l2 i) (k1 : s.heap.IsList l1 xs) (k2 : s.heap.IsList l2 ys) (he : xs[i]? = none ∨ ys[i]? = none)
    (q : ∀ h' e, (∀ c o, c ≠ z → c ≠ TO → c ≠ i1 → c ≠ i2 → s.heap.get? c = some o → h'.get? c = some o) → (∃ o, h'.get? e = some o ∧ o.cls = .type "StopIteration") → E (.ref e) { s with heap := h' }) :
    wpAny (model prog w) A (Builtin.SmallTypes.nextOf (.ref z)) Q E s := by
  obtain ⟨x0, f, hz, hx0⟩ := hz
  have hT : s.TypeIs (.ref z) "zip" := ⟨_, hz, rfl⟩
  unfold Builtin.SmallTypes.nextOf
  refine wpAny_bind (wpAny_callSpecial?_slot (name := Str.ofString "__next__") hT F.slot_zip_next (wpAny_call_entry F.slot_zip_next hT F.entry_zip_next ?_ (F.args_zip_next_1 _)))
  by_cases fr : Free0 x0 s.heap
  · exact zip_free_end hh D hz fr hTI hTO h1 h2 k1 k2 he q
  · rcases hx0 with ⟨rfl, _⟩ | ⟨T, rfl⟩
    · exact absurd (.inl rfl) fr
    · cases hT2 : s.heap.get? T with
      | none => exact absurd (.inr ⟨T, rfl, hT2⟩) fr
      | some oT => exact zip_next_end_held hh D hz hT2 hTI h1 h2 k1 k2 he fun h' e k => q h' e fun c' o c1 _ c3 c4 => k c' o c1 c3 c4
/-- the next of an enumerate over anything -/
theorem enum_any {e it : Addr} {c : Int} {old : Value} {Q : Option Value → Shared → Prop} {INN : Value → Heap → Prop} (he : IsEnum s.heap e it c old)
    (step : ∀ (Q : Value → Shared → Prop), (∀ u h1, INN u h1 → Q u { s with heap := h1 }) → wpAny (model prog w) A.in1 (Builtin.SmallTypes.nextOf (.ref it)) Q (fun _ _ => False) s) (ke : ∀ u h1, INN u h1 → IsEnum h1 e it c old)
    (q : ∀ u h1 h', INN u h1 → IsEnumOut h' e it (c + 1) u h1.objs.size → h'.get? h1.objs.size = some { cls := .type "tuple", data := .seq #[.int c s.toks, u] } → (∀ b o, b ≠ e → h1.get? b = some o → h'.get? b = some o) → Q (some (.ref h1.objs.size)) { s with heap := h', toks := s.toks + 1 }) :
    wpAny (model prog w) A (pyNext (.ref e)) Q E s := by
  have hT : s.TypeIs (.ref e) "enumerate" := ⟨_, he, rfl⟩
  unfold pyNext
  refine wpAny_bind (wpAny_attempt (wpAny_callSpecial?_slot (name := Str.ofString "__next__") hT F.slot_enumerate_next (wpAny_call_entry F.slot_enumerate_next hT F.entry_enumerate_next ?_ (F.args_enumerate_next_1 _))))
  obtain ⟨hp, g, d, tk, os⟩ := s
  show wpAny _ _ (field (.ref e) 2 >>= _) _ _ _
  refine wpAny_bind (wpAny_field he rfl (x := .ref it) rfl ?_)
  refine wpAny_bind (wpAny_mono (step _ fun u h1 hi => ?_) (fun _ _ z => z) fun _ _ z => z.elim)
  have e1 := ke u h1 hi
  show wpAny _ _ (field (.ref e) 3 >>= _) _ _ ⟨h1, g, d, tk, os⟩
  refine wpAny_bind (wpAny_field e1 rfl (x := rawInt c) rfl ?_)
  show wpAny _ _ (field (.ref e) 4 >>= _) _ _ ⟨h1, g, d, tk, os⟩
  refine wpAny_bind (wpAny_field e1 rfl (x := .none) rfl ?_)
  show wpAny _ _ (mkInt c >>= _) _ _ ⟨h1, g, d, tk, os⟩
  refine wpAny_bind (wpAny_mkInt ?_)
  show wpAny _ _ (setField (.ref e) 3 (rawInt (c + 1)) >>= _) _ _ ⟨h1, g, d, tk + 1, os⟩
  refine wpAny_bind (wpAny_setField_rec e1 (by simp) fun h2 e2 s2 => ?_)
  replace s2 : Heap.SameBut e h1 h2 := s2
  replace e2 : IsEnum h2 e it (c + 1) old := e2
  show wpAny _ _ (setField (.ref e) 4 .none >>= _) _ _ ⟨h2, g, d, tk + 1, os⟩
  refine wpAny_bind (wpAny_setField_rec e2 (by simp) fun h3 e3 s3 => ?_)
  replace s3 : Heap.SameBut e h2 h3 := s3
  replace e3 : IsEnum h3 e it (c + 1) old := e3
  show wpAny _ _ (newTuple [.int c tk, u] >>= _) _ _ ⟨h3, g, d, tk + 1, os⟩
  refine wpAny_bind (wpAny_newTuple ?_)
  have e4 : IsEnum (h3.push { cls := .type "tuple", data := .seq #[.int c tk, u] }) e it (c + 1) old := Heap.get?_push_of_some _ e3
  have hsz : h3.objs.size = h1.objs.size := by rw [s3.1, s2.1]
  generalize hh4 : h3.push { cls := .type "tuple", data := .seq #[.int c tk, u] } = h4 at e4
  have hel : e < h1.objs.size := Heap.lt_size e1
  have t4 : h4.get? h1.objs.size = some { cls := .type "tuple", data := .seq #[.int c tk, u] } := by rw [← hh4, ← hsz]; exact Heap.get?_push_size _ rfl
  have k4 : ∀ b o, b ≠ e → h1.get? b = some o → h4.get? b = some o := fun b o hbe hb => by
    rw [← hh4]; exact Heap.get?_push_of_some _ (s3.extBut b o hbe (s2.extBut b o hbe hb))
  show wpAny _ _ (Builtin.SmallTypes.ownedTupleIsFree (.ref e) >>= _) _ _ ⟨h4, g, d, tk + 1, os⟩
  rw [hsz]
  refine wpAny_bind ?_
  unfold Builtin.SmallTypes.ownedTupleIsFree
  refine wpAny_bind (wpAny_field e4 rfl (x := .none) rfl (wpAny_pure ?_))
  simp only [if_true]
  refine wpAny_bind (wpAny_rule (wpAny_bind (wpAny_field e4 rfl (x := old) rfl (wpAny_bind (wpAny_setField_rec e4 (by simp) fun h5 e5 s5 => ?_)))))
  replace s5 : Heap.SameBut e h4 h5 := s5
  replace e5 : IsEnum h5 e it (c + 1) u := e5
  show wpAny _ _ (Builtin.SmallTypes.ownedTupleHandOut (.ref e) (.ref h1.objs.size) >>= _) _ _ ⟨h5, g, d, tk + 1, os⟩
  refine wpAny_bind ?_
  unfold Builtin.SmallTypes.ownedTupleHandOut
  refine wpAny_bind (wpAny_setField_rec e5 (by simp) fun h6 e6 s6 => ?_)
  replace s6 : Heap.SameBut e h5 h6 := s6
  replace e6 : IsEnumOut h6 e it (c + 1) u h1.objs.size := e6
  refine wpAny_setField_rec e6 (by simp) fun h7 e7 s7 => ?_
  replace s7 : Heap.SameBut e h6 h7 := s7
  replace e7 : IsEnumOut h7 e it (c + 1) u h1.objs.size := e7
  have ne := Nat.ne_of_gt hel
  refine wpAny_bind (wpAny_letGo (wpAny_pure ⟨_, rfl, wpAny_pure (q u h1 h7 hi e7 ?_ fun b o hbe hb => ?_)⟩))
  · exact s7.extBut _ _ ne (s6.extBut _ _ ne (s5.extBut _ _ ne t4))
  · exact s7.extBut b o hbe (s6.extBut b o hbe (s5.extBut b o hbe (k4 b o hbe hb)))
theorem enum_any_end {e it : Addr} {c : Int} {old : Value} {Q : Option Value → Shared → Prop} (he : IsEnum s.heap e it c old) {KP : Heap → Prop}
    (step : ∀ (Q : Value → Shared → Prop) (E : Value → Shared → Prop), (∀ h1 x, KP h1 → (∃ o, h1.get? x = some o ∧ o.cls = .type "StopIteration") → E (.ref x) { s with heap := h1 }) → wpAny (model prog w) A.in1 (Builtin.SmallTypes.nextOf (.ref it)) Q E s)
    (q : ∀ h', KP h' → Q none { s with heap := h' }) : wpAny (model prog w) A (pyNext (.ref e)) Q E s := by
  have hT : s.TypeIs (.ref e) "enumerate" := ⟨_, he, rfl⟩
  unfold pyNext
  refine wpAny_bind (wpAny_attempt (wpAny_callSpecial?_slot (name := Str.ofString "__next__") hT F.slot_enumerate_next (wpAny_call_entry F.slot_enumerate_next hT F.entry_enumerate_next ?_ (F.args_enumerate_next_1 _))))
  show wpAny _ _ (field (.ref e) 2 >>= _) _ _ _
  refine wpAny_bind (wpAny_field he rfl (x := .ref it) rfl (wpAny_bind (step _ _ fun h' x k hx => ?_)))
  obtain ⟨o, ho, hc⟩ := hx
  refine wpAny_bind (wpAny_isInstance (T := "StopIteration") (b := true) ⟨o, ho, hc⟩ isSubtype_stop ?_)
  exact wpAny_pure (q _ k)
end
/-! ### enumerate(zip(two lists)) -/
def Itez (K : PySem.W.Frag) (a b : Addr) : It :=
  ⟨fun i H => ∃ (xs ys : List V) (x y : V), SqL K H a xs ∧ SqL K H b ys ∧ xs[i]? = some x ∧ ys[i]? = some y,
    fun i H v H' => ∃ T P x y, v = .ref T ∧ H P = none ∧ H T = none ∧ T ≠ P ∧ H' = upd (upd H P (.tup [x, y])) T (.tup [.int (i : Nat), .ref P]) ∧ (∀ xs, SqL K H a xs → xs[i]? = some x) ∧ ∀ ys, SqL K H b ys → ys[i]? = some y,
    fun i H => ∃ xs ys : List V, SqL K H a xs ∧ SqL K H b ys ∧ (xs.length ≤ i ∨ ys.length ≤ i)⟩
/-- the six objects, as they stand before the turn `i` -/
structure EzAt (a b e z TI TO i1 i2 : Addr) (i : Nat) (h : Heap) : Prop where
  num : ∃ old, IsEnum h e z ((i : Nat) : Int) old
  zip : ZAny h z TI TO
  ins : IsPair h TI (.ref i1) (.ref i2)
  outs : ∃ x y, IsPair h TO x y
  l1 : h.IsListIter i1 a i
  l2 : h.IsListIter i2 b i
theorem all6 {p : Addr → Prop} {a b c d e f : Addr} (ha : p a) (hb : p b) (hc : p c) (hd : p d) (he : p e) (hf : p f) : ∀ y, y ∈ [a, b, c, d, e, f] → p y := by
  simpa using ⟨ha, hb, hc, hd, he, hf⟩
theorem no6 {a b c d e f y : Addr} (h : y ∉ [a, b, c, d, e, f]) : y ≠ a ∧ y ≠ b ∧ y ≠ c ∧ y ≠ d ∧ y ≠ e ∧ y ≠ f := by
  simpa [not_or] using h
theorem EzAt.small {a b e z TI TO i1 i2 : Addr} {i : Nat} {h : Heap} (q : EzAt a b e z TI TO i1 i2 i h) : ∀ c, c ∈ [e, z, TI, TO, i1, i2] → c < h.objs.size := by
  obtain ⟨_, q1⟩ := q.num
  obtain ⟨_, _, q2, _⟩ := q.zip
  obtain ⟨_, _, q3⟩ := q.outs
  obtain ⟨_, q4, _⟩ := q.l1
  obtain ⟨_, q5, _⟩ := q.l2
  exact all6 (Heap.lt_size q1) (Heap.lt_size q2) (Heap.lt_size q.ins) (Heap.lt_size q3) (Heap.lt_size q4) (Heap.lt_size q5)
theorem turn_ez {P : Program} {w : World} {K : PySem.W.Frag} {elts : List Expr} {kk : Nat} {tpos : Pos} {a b e z TI TO i1 i2 : Addr} (D : ZipApart z TI TO i1 i2 a b) (ne : ∀ c, c ∈ [z, TI, TO, i1, i2] → e ≠ c) :
    Turn P w K (.Tuple elts kk tpos) (Itez K a b) [e, z, TI, TO, i1, i2] e (EzAt a b e z TI TO i1 i2) where
  mem := List.mem_cons_self
  obj := fun i h q => by
    obtain ⟨_, q1⟩ := q.num
    obtain ⟨_, _, q2, _⟩ := q.zip
    obtain ⟨_, _, q3⟩ := q.outs
    obtain ⟨_, q4, _, d4⟩ := q.l1
    obtain ⟨_, q5, _, d5⟩ := q.l2
    refine all6 ⟨_, q1, ?_⟩ ⟨_, q2, ?_⟩ ⟨_, q.ins, ?_⟩ ⟨_, q3, ?_⟩ ⟨_, q4, ?_⟩ ⟨_, q5, ?_⟩ <;> intro v y <;> simp_all
  keep := fun i h h' q k => by
    have k' : ∀ c, c ∈ [e, z, TI, TO, i1, i2] → ∀ o, h.get? c = some o → h'.get? c = some o := k
    obtain ⟨old, q1⟩ := q.num
    obtain ⟨x0, f, q2, q2'⟩ := q.zip
    obtain ⟨u, v, q3⟩ := q.outs
    exact ⟨⟨old, k' _ (by simp) _ q1⟩, ⟨x0, f, k' _ (by simp) _ q2, q2'⟩, k' _ (by simp) _ q.ins, ⟨u, v, k' _ (by simp) _ q3⟩, q.l1.at (k' _ (by simp)), q.l2.at (k' _ (by simp))⟩
  item := by
    rintro X rfl rfl rfl hc i pins s σ H E I hf q ⟨xs, ys, x, y, hqx, hqy, hx, hy⟩
    obtain ⟨its, rv, p, _⟩ := I.list hqx
    obtain ⟨its2, rv2, p2, _⟩ := I.list hqy
    obtain ⟨u, hu, ru⟩ := rv.get hx
    obtain ⟨u2, hu2, ru2⟩ := rv2.get hy
    obtain ⟨old, q1⟩ := q.num
    obtain ⟨_, _, q3⟩ := q.outs
    have sm := q.small
    have nz := ne z (by simp)
    have nTO := ne TO (by simp)
    have n1 := ne i1 (by simp)
    have n2 := ne i2 (by simp)
    have nTI := ne TI (by simp)
    refine enum_any (INN := fun v h1 => v = .ref s.heap.objs.size ∧ ZAny h1 z TI TO ∧ (∃ b1 b2, IsPair h1 TO b1 b2) ∧ h1.IsListIter i1 a (i + 1) ∧ h1.IsListIter i2 b (i + 1) ∧ IsPair h1 s.heap.objs.size u u2 ∧ h1.objs.size = s.heap.objs.size + 1 ∧ (∀ c o, c ≠ z → c ≠ TO → c ≠ i1 → c ≠ i2 → s.heap.get? c = some o → h1.get? c = some o)) q1
      (fun Q k => zipA_item D q.zip q.ins q3 q.l1 q.l2 p.isList p2.isList (x := u) (y := u2) (by simpa using hu) (by simpa using hu2) fun h1 a1 a2 a3 a4 a5 a6 a7 => k _ h1 ⟨rfl, a1, a2, a3, a4, a5, a6, a7⟩)
      (fun v h1 hi => hi.2.2.2.2.2.2.2 _ _ nz nTO n1 n2 q1) fun v h1 h' hi o1 new kp => ?_
    obtain ⟨rfl, a1, a2, a3, a4, a5, a6, a7⟩ := hi
    refine ⟨_, rfl, wpAny_letOwnedTupleGo_enum (s := { s with heap := h', toks := s.toks + 1 }) o1 fun h2 o2 sb => ?_⟩
    have pair1 : ObjOk X.prog X.w (upd H s.heap.objs.size (.tup [x, y])) h1 s.heap.objs.size (.tup [x, y]) :=
      ⟨(by decide : 2 ≤ sizeLine), [u, u2], .cons ru (.cons ru2 .nil), ⟨_, a5, rfl, _, rfl⟩⟩
    have J1 : L2.Inv X pins σ (upd H s.heap.objs.size (.tup [x, y])) { s with heap := h1 } :=
      I.turnedNew (t' := s.toks) (ch := [e, z, TI, TO, i1, i2]) (fun c o nc z' => by obtain ⟨_, m1, m2, m3, m4, m5⟩ := no6 nc; exact a7 c o m1 m3 m4 m5 z') hf (Nat.le_refl _) pair1
    have fP : ∀ c, c ∈ [e, z, TI, TO, i1, i2] → c ≠ s.heap.objs.size := fun c hc => Nat.ne_of_lt (sm c hc)
    have nel : e < h1.objs.size := by rw [a6]; exact Nat.lt_succ_of_lt (sm e (by simp))
    have nt : h2.get? h1.objs.size = some { cls := .type "tuple", data := .seq #[.int i s.toks, .ref s.heap.objs.size] } := (sb.2 _ (Nat.ne_of_gt nel)).trans new
    have pair2 : ObjOk X.prog X.w (upd (upd H s.heap.objs.size (.tup [x, y])) h1.objs.size (.tup [.int (i : Nat), .ref s.heap.objs.size])) h2 h1.objs.size (.tup [.int (i : Nat), .ref s.heap.objs.size]) :=
      ⟨(by decide : 2 ≤ sizeLine), [.int i s.toks, .ref s.heap.objs.size], .cons ⟨_, rfl⟩ (.cons rfl .nil), ⟨_, nt, rfl, _, rfl⟩⟩
    have kp2 : ∀ c o, c ∉ [e] → h1.get? c = some o → h2.get? c = some o := fun c o nc z' => by
      have nn : c ≠ e := by simpa using nc
      exact (sb.2 c nn).trans (kp c o nn z')
    have J2 : L2.Inv X pins σ (upd (upd H s.heap.objs.size (.tup [x, y])) h1.objs.size (.tup [.int (i : Nat), .ref s.heap.objs.size])) { s with heap := h2, toks := s.toks + 1 } :=
      J1.turnedNew (t' := s.toks + 1) (ch := [e]) kp2 (fun c hc => by
        have ec : c = e := by simpa using hc
        subst ec
        obtain ⟨f0, f1⟩ := hf c (by simp)
        exact ⟨by rw [upd_ne (fP c (by simp))]; exact f0, f1⟩) (Nat.le_refl _) pair2
    have hP : H s.heap.objs.size = none := I.hok.fresh (Nat.le_refl _)
    have hT : H h1.objs.size = none := I.hok.fresh (by rw [a6]; exact Nat.le_succ _)
    have big : ∀ c, c ∈ [e, z, TI, TO, i1, i2] → c ≠ h1.objs.size := fun c hc => by rw [a6]; exact Nat.ne_of_lt (Nat.lt_succ_of_lt (sm c hc))
    refine ⟨.ref h1.objs.size, _, J2, rfl, ⟨_, _, x, y, rfl, hP, hT, by rw [a6]; exact Nat.succ_ne_self _, rfl, fun l hl => by rw [I.list_inj hl hqx]; exact hx, fun l hl => by rw [I.list_inj hl hqy]; exact hy⟩, ?_, fun c hc => ?_⟩
    · obtain ⟨x0, f, q2, q2'⟩ := a1
      obtain ⟨b1, b2, a2⟩ := a2
      have up : ∀ c o, c ≠ e → h1.get? c = some o → h2.get? c = some o := fun c o nc z' => kp2 c o (by simpa using nc) z'
      exact ⟨⟨_, by simpa using o2⟩, ⟨x0, f, up _ _ nz.symm q2, q2'⟩, up _ _ nTI.symm (a7 _ _ D.TIz D.TITO D.TIi1 D.TIi2 q.ins), ⟨b1, b2, up _ _ nTO.symm a2⟩, a3.at fun o => up _ o n1.symm, a4.at fun o => up _ o n2.symm⟩
    · exact (upd_ne (big c hc)).trans ((upd_ne (fP c hc)).trans (hf c hc).1)
  done := by
    rintro X rfl rfl rfl hc i pins s σ H E I hf q ⟨xs, ys, hqx, hqy, hend⟩
    obtain ⟨its, rv, p, _⟩ := I.list hqx
    obtain ⟨its2, rv2, p2, _⟩ := I.list hqy
    obtain ⟨old, q1⟩ := q.num
    obtain ⟨_, _, q3⟩ := q.outs
    have e1 := rv.length
    have e2 := rv2.length
    have he : its.toArray[i]? = none ∨ its2.toArray[i]? = none := by
      rcases hend with y | y
      · exact .inl (by simp; omega)
      · exact .inr (by simp; omega)
    have hd : X.A.in1.handled = none := I.ok.hd hc
    exact enum_any_end (KP := fun h1 => ∀ c o, c ≠ z → c ≠ TO → c ≠ i1 → c ≠ i2 → s.heap.get? c = some o → h1.get? c = some o) q1 (fun Q E k => zipA_end hd D q.zip q.ins q3 q.l1 q.l2 p.isList p2.isList he fun h1 x kk hx => k h1 x kk hx) fun h' kk =>
      ⟨rfl, I.turnedL (t' := s.toks) (ch := [e, z, TI, TO, i1, i2]) (fun c o nc z' => by obtain ⟨_, m1, m2, m3, m4, m5⟩ := no6 nc; exact kk c o m1 m3 m4 m5 z') hf⟩
  self := fun _ _ _ _ _ q h => by obtain ⟨_, q1⟩ := q.num; exact wpAny_pyIter_enum q1 h
theorem meets_enumZ (z TI TO : Addr) :
    Meets (Builtin.«enumerate.__new__» ⟨[.type "enumerate", .ref z], []⟩) (fun _ R s => IsZip s.heap z TI TO .none ∧ R (.ok (.ret (.ref s.heap.objs.size))) { s with heap := s.heap.push (enumOb z) }) :=
  .of_wp fun prog w A R s h => by
    obtain ⟨hp, g, d, tk, os⟩ := s; obtain ⟨hz, h⟩ := h
    have hsub := sub_enumerate
    wp_walk using AutoSeq1.wpAny_loadPart' hz
    refine wpAny_stack_any fun st => wpAny_pure ?_
    split
    · rename_i c _ _ _ _ _
      cases (c == Value.type "enumerate")
      · wp_walk using AutoSeq1.wpAny_loadPart' hz, wpAny_pyIter_zip hz
        exact ⟨_, rfl, h⟩
      · wp_walk using AutoSeq1.wpAny_loadPart' hz, wpAny_pyIter_zip hz
        exact ⟨_, rfl, h⟩
    · wp_walk using AutoSeq1.wpAny_loadPart' hz, wpAny_pyIter_zip hz
      exact ⟨_, rfl, h⟩
theorem call_enumZ {prog : Program} {w : World} {A : Around} {E : Value → Shared → Prop} {s : Shared} {z TI TO : Addr} {Q : Value → Shared → Prop} (hz : IsZip s.heap z TI TO .none)
    (q : ∀ h', IsEnum h' s.heap.objs.size z 0 .none → (∀ b o, s.heap.get? b = some o → h'.get? b = some o) → Q (.ref s.heap.objs.size) { s with heap := h' }) :
    wpAny (model prog w) A (call (.type "enumerate") [.ref z]) Q E s := by
  refine callType_new F.called_enumerate (by decide) (F.typeCall_enumerate_1 _) (F.newCall_enumerate_1 _) (fun obj => F.args_object_init_2 obj _) F.entry_enumerate_new (meets_enumZ z TI TO) ⟨hz, ?_⟩
  have he : IsEnum (s.heap.push (enumOb z)) s.heap.objs.size z 0 .none := Heap.get?_push_size _ rfl
  exact ⟨⟨_, he, rfl⟩, q _ he fun b o x => Heap.get?_push_of_some _ x⟩
def iEnZ (K : PySem.W.Frag) (ta : TA) : TI := fun σ H R => ta σ H fun vs H1 => ∃ a b xs ys, vs = [.ref a, .ref b] ∧ SqL K H1 a xs ∧ SqL K H1 b ys ∧ R (Itez K a b) H1
theorem pi_enZ {X : Cx} {e e2 : Expr} {ta : TA} {p p2 pos pos2 tpos : Pos} {elts : List Expr} {kk : Nat} (hg : Gl X "enumerate") (hm : X.mg "enumerate" = none) (hg2 : Gl X "zip") (hm2 : X.mg "zip" = none) (ha : PA X [e, e2] ta)
    (hs0 : starEach [.Call (.Name "zip" p2) [e, e2] [] pos2] X.env = (false, eval (.Call (.Name "zip" p2) [e, e2] [] pos2) X.env) :: starEach [] X.env := by rfl) (hs : starEach [e, e2] X.env = (false, eval e X.env) :: starEach [e2] X.env := by rfl) (hpl : (backTo pos2 (starEach [e2] X.env)).any (·.1) = false := by rfl) :
    PI X (.Tuple elts kk tpos) (.Call (.Name "enumerate" p) [.Call (.Name "zip" p2) [e, e2] [] pos2] [] pos) (iEnZ X.K ta) := by
  refine ⟨fun pins s σ H R I h => ?_⟩
  refine Call_ (ld_blt I hg hm boot_enumerate (PyProof.Rows.callWith_type1 (spliced_more ?_ hs0) hs0 rfl))
  refine Call_ (ld_blt (I) hg2 hm2 PyProof.Rows.boot_zip (PyProof.Rows.callWith_type1 (thn (ha.run pos2 pins s σ H _ I h) fun us s1 ⟨vs, H1, I1, r1, q1⟩ => ?_) hs hpl))
  obtain ⟨a, b, xs, ys, ex, hqx, hqy, q⟩ := q1
  subst ex
  cases r1 with
  | cons r rr =>
    cases rr with
    | cons r' rr =>
      cases rr
      cases r
      cases r'
      obtain ⟨its, rv, p1, _⟩ := I1.list hqx
      obtain ⟨its2, rv2, p2', _⟩ := I1.list hqy
      let n := s1.heap.objs.size
      refine call_zip_2 p1.isList p2'.isList fun h1 z1 zI zO m1 m2 hsz hk => spliced_none ?_
      refine call_enumZ (s := { s1 with heap := h1 }) z1 fun h2 e1 k2 => wpAny_pyIter_enum e1 ?_
      have I2 : Inv X pins σ H1 { s1 with heap := h2 } := I1.kept (t' := s1.toks) fun c o x => k2 c o (hk c o x)
      have up : ∀ c, c ∈ [h1.objs.size, n + 4, n + 2, n + 3, n, n + 1] → n ≤ c := all6 (by rw [hsz]; exact Nat.le_add_right _ _) (by omega) (by omega) (by omega) (by omega) (by omega)
      refine ⟨h1.objs.size, [h1.objs.size, n + 4, n + 2, n + 3, n, n + 1], _, _, H1, rfl, I2, turn_ez (PySem.W.ktu_apart n a b p1.lt p2'.lt) (all5 ?_ ?_ ?_ ?_ ?_), ⟨⟨.none, e1⟩, ⟨_, _, k2 _ _ z1, .inl ⟨rfl, rfl⟩⟩, k2 _ _ zI, ⟨_, _, k2 _ _ zO⟩, m1.at fun o => k2 _ o, m2.at fun o => k2 _ o⟩, fun c hc => I1.fpOk (up c hc) (I1.hok.fresh (up c hc)), q⟩
      all_goals (rw [hsz]; show s1.heap.objs.size + 5 ≠ _; omega)
def kEnZ (K : PySem.W.Frag) (R : It → Hp → Prop) : List V → Hp → Prop := fun vs H1 => ∃ a b xs ys, vs = [.ref a, .ref b] ∧ SqL K H1 a xs ∧ SqL K H1 b ys ∧ R (Itez K a b) H1
theorem w_iEnZ {K : PySem.W.Frag} {ta : TA} {σ : L2.St} {H : Hp} {R : It → Hp → Prop} (q : ta σ H (kEnZ K R)) : iEnZ K ta σ H R := q
theorem pi_enZK {X : Cx} {K' : PySem.W.Frag} {e e2 : Expr} {ta : TA} {p p2 pos pos2 tpos : Pos} {elts : List Expr} {kk : Nat} (hK : X.K = K') (hg : Gl X "enumerate") (hm : X.mg "enumerate" = none) (hg2 : Gl X "zip") (hm2 : X.mg "zip" = none) (ha : PA X [e, e2] ta)
    (hs0 : starEach [.Call (.Name "zip" p2) [e, e2] [] pos2] X.env = (false, eval (.Call (.Name "zip" p2) [e, e2] [] pos2) X.env) :: starEach [] X.env := by rfl) (hs : starEach [e, e2] X.env = (false, eval e X.env) :: starEach [e2] X.env := by rfl) (hpl : (backTo pos2 (starEach [e2] X.env)).any (·.1) = false := by rfl) :
    PI X (.Tuple elts kk tpos) (.Call (.Name "enumerate" p) [.Call (.Name "zip" p2) [e, e2] [] pos2] [] pos) (iEnZ K' ta) := by subst hK; exact pi_enZ hg hm hg2 hm2 ha hs0 hs hpl
theorem upd2 {H : Hp} {P T : Addr} {o o2 : HO} (nP : H P = none) (nT : H T = none) (ne : T ≠ P) : Same H (upd (upd H P o) T o2) ∧ (upd (upd H P o) T o2) P = some o ∧ (upd (upd H P o) T o2) T = some o2 :=
  ⟨(Same.new nP).trans (Same.new (by rw [upd_ne ne]; exact nT)), (upd_ne ne.symm).trans upd_same, upd_same⟩
theorem w_forEZ {K : PySem.W.Frag} {g : TG} {tb : TS} {D : Ends} {σ : L2.St} {H : Hp} {a b : Addr} (xs ys : List V) (Pv : Nat → L2.St → Hp → Prop) (hx : SqL K H a xs) (hy : SqL K H b ys) (e : xs.length = ys.length) (h0 : Pv 0 σ H) (hl : ∀ i σ H, Pv i σ H → SqL K H a xs ∧ SqL K H b ys)
    (hs : ∀ i x y σ H T P H1, xs[i]? = some x → ys[i]? = some y → Pv i σ H → H T = none → H P = none → Same H H1 → H1 P = some (.tup [x, y]) → H1 T = some (.tup [.int (i : Nat), .ref P]) → g (.ref T) σ H1 fun σ2 H2 => tb { D with nx := Pv (i + 1), ct := Pv (i + 1), bk := D.nx } σ2 H2)
    (hd : ∀ σ H, Pv xs.length σ H → D.nx σ H) : kEnZ K (kFor g tb D σ) [.ref a, .ref b] H := by
  refine ⟨a, b, xs, ys, rfl, hx, hy, fun i m σ H => m = xs.length - i ∧ i ≤ xs.length ∧ Pv i σ H, ⟨xs.length, by simp, Nat.zero_le _, h0⟩, ?_⟩
  rintro i m σ H ⟨rfl, hi, p⟩
  obtain ⟨qx, qy⟩ := hl i σ H p
  by_cases hlt : i < xs.length
  · refine .inr ⟨⟨xs, ys, xs[i], ys[i]'(by omega), qx, qy, List.getElem?_eq_getElem hlt, List.getElem?_eq_getElem _⟩, Pv (i + 1), fun σ' H' p' => ⟨xs.length - (i + 1), by omega, rfl, hlt, p'⟩, fun v H' y => ?_⟩
    obtain ⟨T, P, x, y, rfl, nP, nT, ne, rfl, hx', hy'⟩ := y
    obtain ⟨u1, u2, u3⟩ := upd2 (o := .tup [x, y]) (o2 := .tup [.int (i : Nat), .ref P]) nP nT ne
    exact hs i x y σ H T P _ (hx' xs qx) (hy' ys qy) p nT nP u1 u2 u3
  · have e : i = xs.length := by omega
    subst e
    exact .inl ⟨⟨xs, ys, qx, qy, .inl (Nat.le_refl _)⟩, hd σ H p⟩
theorem w_lcEZ {K : PySem.W.Frag} {g : TG} {tt : TT} {te : TE} {vs : List Nat} {σ : L2.St} {H : Hp} {Q : VK} {a b : Addr} (xs ys : List V) (Pv : Addr → Nat → Hp → Prop) (hx : SqL K H a xs) (hy : SqL K H b ys) (e : xs.length = ys.length) (h0 : ∀ D, H D = none → Pv D 0 (upd H D (.lst []))) (hl : ∀ D i H, Pv D i H → SqL K H a xs ∧ SqL K H b ys)
    (hs : ∀ D i x y T P H H', xs[i]? = some x → ys[i]? = some y → Pv D i H → H T = none → H P = none → Same H H' → H' P = some (.tup [x, y]) → H' T = some (.tup [.int (i : Nat), .ref P]) → g (.ref T) (wipe σ vs) H' fun σ2 H2 => wipe σ2 vs = wipe σ vs ∧ tt σ2 H2 fun b H3 =>
      if b = true then te σ2 H3 fun y H4 => ∃ acc, H4 D = some (.lst acc) ∧ acc.length < sizeLine ∧ Pv D (i + 1) (upd H4 D (.lst (acc ++ [y]))) else Pv D (i + 1) H3) (hd : ∀ D H', H D = none → Pv D xs.length H' → Q (.ref D) H') : kEnZ K (kLc g tt te vs σ Q) [.ref a, .ref b] H := by
  refine ⟨a, b, xs, ys, rfl, hx, hy, fun D nD => ⟨fun i m H => m = xs.length - i ∧ i ≤ xs.length ∧ Pv D i H, ⟨xs.length, by simp, Nat.zero_le _, h0 D nD⟩, ?_⟩⟩
  rintro i m H' ⟨rfl, hi, p⟩
  obtain ⟨qx, qy⟩ := hl D i H' p
  by_cases hlt : i < xs.length
  · refine .inr ⟨⟨xs, ys, xs[i], ys[i]'(by omega), qx, qy, List.getElem?_eq_getElem hlt, List.getElem?_eq_getElem _⟩, Pv D (i + 1), fun H2 p' => ⟨xs.length - (i + 1), by omega, rfl, hlt, p'⟩, fun v H2 y => ?_⟩
    obtain ⟨T, P, x, y, rfl, nP, nT, ne, rfl, hx', hy'⟩ := y
    obtain ⟨u1, u2, u3⟩ := upd2 (o := .tup [x, y]) (o2 := .tup [.int (i : Nat), .ref P]) nP nT ne
    exact hs D i x y T P H' _ (hx' xs qx) (hy' ys qy) p nT nP u1 u2 u3
  · have e : i = xs.length := by omega
    subst e
    exact .inl ⟨⟨xs, ys, qx, qy, .inl (Nat.le_refl _)⟩, hd D H' nD p⟩
end Co

set_option Elab.async false
set_option linter.all false
set_option maxRecDepth 100000
set_option maxHeartbeats 4000000
namespace Co
open PySem PySem.Spec PyProof.Rows L2
/-! ### zip of three lists -/
def Itz3 (K : PySem.W.Frag) (a b c : Addr) : It :=
  ⟨fun i H => ∃ (xs ys zs : List V) (x y z : V), SqL K H a xs ∧ SqL K H b ys ∧ SqL K H c zs ∧ xs[i]? = some x ∧ ys[i]? = some y ∧ zs[i]? = some z,
    fun i H v H' => ∃ T x y z, v = .ref T ∧ H T = none ∧ H' = upd H T (.tup [x, y, z]) ∧ (∀ xs, SqL K H a xs → xs[i]? = some x) ∧ (∀ ys, SqL K H b ys → ys[i]? = some y) ∧ ∀ zs, SqL K H c zs → zs[i]? = some z,
    fun i H => ∃ xs ys zs : List V, SqL K H a xs ∧ SqL K H b ys ∧ SqL K H c zs ∧ i = xs.length ∧ i = ys.length ∧ i = zs.length⟩
structure Z3At (a b c z TI TO i1 i2 i3 : Addr) (i : Nat) (h : Heap) : Prop where
  zip : IsZip h z TI TO .none
  ins : IsTupOf3 h TI (.ref i1) (.ref i2) (.ref i3)
  outs : ∃ x y w, IsTupOf3 h TO x y w
  l1 : h.IsListIter i1 a i
  l2 : h.IsListIter i2 b i
  l3 : h.IsListIter i3 c i
theorem Z3At.small {a b c z TI TO i1 i2 i3 : Addr} {i : Nat} {h : Heap} (q : Z3At a b c z TI TO i1 i2 i3 i h) : ∀ y, y ∈ [z, TI, TO, i1, i2, i3] → y < h.objs.size := by
  obtain ⟨_, _, _, q3⟩ := q.outs
  obtain ⟨_, q4, _⟩ := q.l1
  obtain ⟨_, q5, _⟩ := q.l2
  obtain ⟨_, q6, _⟩ := q.l3
  exact all6 (Heap.lt_size q.zip) (Heap.lt_size q.ins) (Heap.lt_size q3) (Heap.lt_size q4) (Heap.lt_size q5) (Heap.lt_size q6)
/-- the cells lie apart -/
def Ap3 (n a b c : Nat) : Prop := a < n ∧ b < n ∧ c < n
theorem nmem {x a b : Nat} (h1 : x ≠ a) (h2 : x ≠ b) : x ∉ ([a, b] : List Addr) := by
  intro z
  rcases List.mem_cons.mp z with z | z
  · exact h1 z
  · exact h2 (List.mem_singleton.mp z)
theorem sep3 {n a b c : Nat} (h : Ap3 n a b c) : ZipSep3 (n + 5) (n + 3) (n + 4) n (n + 1) (n + 2) [n, a] [n + 1, b] [n + 2, c] := by
  obtain ⟨h1, h2, h3⟩ := h
  have ne : ∀ {x y : Nat}, x ≠ y → (x : Addr) ≠ y := fun h => h
  refine ⟨ne (by omega), ne (by omega), ne (by omega), ne (by omega), List.mem_cons_self, nmem (by omega) (by omega), nmem (by omega) (by omega), ne (by omega), List.mem_cons_self, nmem (by omega) (by omega), nmem (by omega) (by omega), ne (by omega), List.mem_cons_self, nmem (by omega) (by omega), nmem (by omega) (by omega), nmem (by omega) (by omega), nmem (by omega) (by omega), nmem (by omega) (by omega), nmem (by omega) (by omega), nmem (by omega) (by omega), nmem (by omega) (by omega)⟩
theorem turn_zip3 {P : Program} {w : World} {K : PySem.W.Frag} {elts : List Expr} {kk : Nat} {tpos : Pos} {n a b c : Nat} (D : Ap3 n a b c) :
    Turn P w K (.Tuple elts kk tpos) (Itz3 K a b c) [n + 5, n + 3, n + 4, n, n + 1, n + 2] (n + 5) (Z3At a b c (n + 5) (n + 3) (n + 4) n (n + 1) (n + 2)) where
  mem := List.mem_cons_self
  obj := fun i h q => by
    obtain ⟨_, _, _, q3⟩ := q.outs
    obtain ⟨_, q4, _, d4⟩ := q.l1
    obtain ⟨_, q5, _, d5⟩ := q.l2
    obtain ⟨_, q6, _, d6⟩ := q.l3
    refine all6 ⟨_, q.zip, ?_⟩ ⟨_, q.ins, ?_⟩ ⟨_, q3, ?_⟩ ⟨_, q4, ?_⟩ ⟨_, q5, ?_⟩ ⟨_, q6, ?_⟩ <;> intro v y <;> simp_all
  keep := fun i h h' q k => by
    have k' : ∀ y, y ∈ [n + 5, n + 3, n + 4, n, n + 1, n + 2] → ∀ o, h.get? y = some o → h'.get? y = some o := k
    obtain ⟨u, v, w, q3⟩ := q.outs
    exact ⟨k' _ (by simp) _ q.zip, k' _ (by simp) _ q.ins, ⟨u, v, w, k' _ (by simp) _ q3⟩, q.l1.at (k' _ (by simp)), q.l2.at (k' _ (by simp)), q.l3.at (k' _ (by simp))⟩
  item := by
    rintro X rfl rfl rfl hc i pins s σ H E I hf q ⟨xs, ys, zs, x, y, z, hqx, hqy, hqz, hx, hy, hz⟩
    obtain ⟨its, rv, p, _⟩ := I.list hqx
    obtain ⟨its2, rv2, p2, _⟩ := I.list hqy
    obtain ⟨its3, rv3, p3, _⟩ := I.list hqz
    obtain ⟨u, hu, ru⟩ := rv.get hx
    obtain ⟨u2, hu2, ru2⟩ := rv2.get hy
    obtain ⟨u3, hu3, ru3⟩ := rv3.get hz
    obtain ⟨_, _, _, q3⟩ := q.outs
    have sm := q.small
    have hd : X.A.in1.handled = none := I.ok.hd hc
    have S := sep3 D
    obtain ⟨d1, d2, d3⟩ := D
    have na : a ≠ n := Nat.ne_of_lt d1
    have nb : b ≠ n + 1 := Nat.ne_of_lt (Nat.lt_succ_of_lt d2)
    have nc : c ≠ n + 2 := Nat.ne_of_lt (Nat.lt_succ_of_lt (Nat.lt_succ_of_lt d3))
    have ne : ∀ {x y : Nat}, x ≠ y → (x : Addr) ≠ y := fun h => h
    have lt : ∀ {its : List Value} {u : Value}, its[i]? = some u → i < its.toArray.size := fun {its u} h => by
      have := (List.getElem?_eq_some_iff.mp h).1
      simpa using this
    refine wpAny_pyNext_zipD3_item S (Draws.list hd n a na its.toArray) (Draws.list hd (n + 1) b nb its2.toArray) (Draws.list hd (n + 2) c nc its3.toArray) q.zip q.ins q3 ⟨q.l1, p.isList⟩ ⟨q.l2, p2.isList⟩ ⟨q.l3, p3.isList⟩ (lt hu) (lt hu2) (lt hu3) fun a1 a2 a3 h1 t1 P1 P2 P3 z1 o1 f1 f2 f3 new _ kp => ?_
    obtain rfl : u = a1 := by
      have : its[i]? = some a1 := by simpa using P1
      simpa [hu] using this
    obtain rfl : u2 = a2 := by
      have : its2[i]? = some a2 := by simpa using P2
      simpa [hu2] using this
    obtain rfl : u3 = a3 := by
      have : its3[i]? = some a3 := by simpa using P3
      simpa [hu3] using this
    refine ⟨_, rfl, wpAny_letOwnedTupleGo_zip (s := { s with heap := h1, toks := t1 }) z1 fun h2 z2 sb => ?_⟩
    have nt : h2.get? s.heap.objs.size = some { cls := .type "tuple", data := .seq #[u, u2, u3] } := (sb.2 _ (Nat.ne_of_gt (sm _ (by simp)))).trans new
    have tri : ObjOk X.prog X.w (upd H s.heap.objs.size (.tup [x, y, z])) h2 s.heap.objs.size (.tup [x, y, z]) :=
      ⟨(by decide : 3 ≤ sizeLine), [u, u2, u3], .cons ru (.cons ru2 (.cons ru3 .nil)), ⟨_, nt, rfl, _, rfl⟩⟩
    have kp2 : ∀ y o, y ∉ [n + 5, n + 3, n + 4, n, n + 1, n + 2] → s.heap.get? y = some o → h2.get? y = some o := fun y o ny e => by
      obtain ⟨m1, _, m3, m4, m5, m6⟩ := no6 ny
      exact (sb.2 y m1).trans (kp y o m1 m3 m4 m5 m6 e)
    have J : L2.Inv X pins σ (upd H s.heap.objs.size (.tup [x, y, z])) { s with heap := h2, toks := t1 } := I.turnedNew (t' := t1) (ch := [n + 5, n + 3, n + 4, n, n + 1, n + 2]) kp2 hf (Nat.le_refl _) tri
    refine ⟨.ref s.heap.objs.size, _, J, rfl, ⟨_, x, y, z, rfl, I.hok.fresh (Nat.le_refl _), rfl, fun l hl => by rw [I.list_inj hl hqx]; exact hx, fun l hl => by rw [I.list_inj hl hqy]; exact hy, fun l hl => by rw [I.list_inj hl hqz]; exact hz⟩,
      { zip := z2, ins := (sb.2 _ (ne (by omega))).trans (kp _ _ (ne (by omega)) (ne (by omega)) (ne (by omega)) (ne (by omega)) (ne (by omega)) q.ins), outs := ⟨u, u2, u3, (sb.2 _ (ne (by omega))).trans o1⟩, l1 := f1.1.at fun o e => (sb.2 _ (ne (by omega))).trans e, l2 := f2.1.at fun o e => (sb.2 _ (ne (by omega))).trans e, l3 := f3.1.at fun o e => (sb.2 _ (ne (by omega))).trans e }, fun y hy => (upd_ne (Nat.ne_of_lt (sm y hy))).trans (hf y hy).1⟩
  done := by
    rintro X rfl rfl rfl hc i pins s σ H E I hf q ⟨xs, ys, zs, hqx, hqy, hqz, e1, e2, e3⟩
    obtain ⟨its, rv, p, _⟩ := I.list hqx
    obtain ⟨its2, rv2, p2, _⟩ := I.list hqy
    obtain ⟨its3, rv3, p3, _⟩ := I.list hqz
    obtain ⟨_, _, _, q3⟩ := q.outs
    have hd : X.A.in1.handled = none := I.ok.hd hc
    have S := sep3 D
    obtain ⟨d1, d2, d3⟩ := D
    have na : a ≠ n := Nat.ne_of_lt d1
    have nb : b ≠ n + 1 := Nat.ne_of_lt (Nat.lt_succ_of_lt d2)
    have nc : c ≠ n + 2 := Nat.ne_of_lt (Nat.lt_succ_of_lt (Nat.lt_succ_of_lt d3))
    have ne : ∀ {x y : Nat}, x ≠ y → (x : Addr) ≠ y := fun h => h
    have l1 : its.toArray.size = i := by simpa [e1] using rv.length.symm
    have l2 : its2.toArray.size = i := by simpa [e2] using rv2.length.symm
    have l3 : its3.toArray.size = i := by simpa [e3] using rv3.length.symm
    exact wpAny_pyNext_zipD3_end S (Draws.list hd n a na its.toArray) (Draws.list hd (n + 1) b nb its2.toArray) (Draws.list hd (n + 2) c nc its3.toArray) q.zip q.ins q3 ⟨q.l1, p.isList⟩ ⟨q.l2, p2.isList⟩ ⟨q.l3, p3.isList⟩ (by omega) (by omega) (by omega) (.inl l1.symm) fun h' tk kp =>
      ⟨rfl, I.turnedL (t' := tk) (ch := [n + 5, n + 3, n + 4, n, n + 1, n + 2]) (fun y o ny e => by obtain ⟨m1, _, m3, m4, m5, m6⟩ := no6 ny; exact kp y o m1 m3 m4 m5 m6 e) hf⟩
  self := fun _ _ _ _ _ q h => wpAny_pyIter_zip q.zip h
def iZip3 (K : PySem.W.Frag) (ta : TA) : TI := fun σ H R => ta σ H fun vs H1 => ∃ a b c xs ys zs, vs = [.ref a, .ref b, .ref c] ∧ SqL K H1 a xs ∧ SqL K H1 b ys ∧ SqL K H1 c zs ∧ R (Itz3 K a b c) H1
theorem pi_zip3 {X : Cx} {e e2 e3 : Expr} {ta : TA} {p pos tpos : Pos} {elts : List Expr} {kk : Nat} (hg : Gl X "zip") (hm : X.mg "zip" = none) (ha : PA X [e, e2, e3] ta)
    (hs : starEach [e, e2, e3] X.env = (false, eval e X.env) :: starEach [e2, e3] X.env := by rfl) (hpl : (backTo pos (starEach [e2, e3] X.env)).any (·.1) = false := by rfl) :
    PI X (.Tuple elts kk tpos) (.Call (.Name "zip" p) [e, e2, e3] [] pos) (iZip3 X.K ta) := by
  refine ⟨fun pins s σ H R I h => ?_⟩
  refine Call_ (ld_blt I hg hm PyProof.Rows.boot_zip (PyProof.Rows.callWith_type1 (thn (ha.run pos pins s σ H _ I h) ?_) hs hpl))
  rintro us s1 ⟨vs, H1, J, r1, a, b, c, xs, ys, zs, rfl, hqx, hqy, hqz, q⟩
  match us, r1 with
  | [_, _, _], .cons rfl (.cons rfl (.cons rfl .nil)) =>
    obtain ⟨its, rv, p1, _⟩ := J.list hqx
    obtain ⟨its2, rv2, p2, _⟩ := J.list hqy
    obtain ⟨its3, rv3, p3, _⟩ := J.list hqz
    let n := s1.heap.objs.size
    have up : ∀ y, y ∈ [n + 5, n + 3, n + 4, n, n + 1, n + 2] → n ≤ y := all6 (by omega) (by omega) (by omega) (by omega) (by omega) (by omega)
    refine zip_begins3 (begins_list a its.toArray) (begins_list b its2.toArray) (begins_list c its3.toArray) p1.isList p2.isList p3.isList fun h' q1 q2 q3 q4 q5 q6 _ kp => wpAny_pyIter_zip q1 ?_
    exact ⟨n + 5, [n + 5, n + 3, n + 4, n, n + 1, n + 2], _, _, H1, rfl, J.kept (t' := s1.toks) kp, turn_zip3 ⟨p1.lt, p2.lt, p3.lt⟩, ⟨q1, q2, ⟨_, _, _, q3⟩, ⟨_, q4, rfl, rfl⟩, ⟨_, q5, rfl, rfl⟩, ⟨_, q6, rfl, rfl⟩⟩, fun y hy => J.fpOk (up y hy) (J.hok.fresh (up y hy)), q⟩
def kZ3 (K : PySem.W.Frag) (R : It → Hp → Prop) : List V → Hp → Prop := fun vs H1 => ∃ a b c xs ys zs, vs = [.ref a, .ref b, .ref c] ∧ SqL K H1 a xs ∧ SqL K H1 b ys ∧ SqL K H1 c zs ∧ R (Itz3 K a b c) H1
theorem w_z3 {K : PySem.W.Frag} {ta : TA} {σ : L2.St} {H : Hp} {R : It → Hp → Prop} (q : ta σ H (kZ3 K R)) : iZip3 K ta σ H R := q
theorem w_lcZ3 {K : PySem.W.Frag} {g : TG} {tt : TT} {te : TE} {vs : List Nat} {σ : L2.St} {H : Hp} {Q : VK} {a b c : Addr} (xs ys zs : List V) (Pv : Addr → Nat → Hp → Prop) (hx : SqL K H a xs) (hy : SqL K H b ys) (hz : SqL K H c zs) (e : xs.length = ys.length) (e2 : xs.length = zs.length) (h0 : ∀ D, H D = none → Pv D 0 (upd H D (.lst []))) (hl : ∀ D i H, Pv D i H → SqL K H a xs ∧ SqL K H b ys ∧ SqL K H c zs)
    (hs : ∀ D i x y z T H H', xs[i]? = some x → ys[i]? = some y → zs[i]? = some z → Pv D i H → H T = none → Same H H' → H' T = some (.tup [x, y, z]) → g (.ref T) (wipe σ vs) H' fun σ2 H2 => wipe σ2 vs = wipe σ vs ∧ tt σ2 H2 fun b H3 =>
      if b = true then te σ2 H3 fun y H4 => ∃ acc, H4 D = some (.lst acc) ∧ acc.length < sizeLine ∧ Pv D (i + 1) (upd H4 D (.lst (acc ++ [y]))) else Pv D (i + 1) H3) (hd : ∀ D H', H D = none → Pv D xs.length H' → Q (.ref D) H') : kZ3 K (kLc g tt te vs σ Q) [.ref a, .ref b, .ref c] H := by
  refine ⟨a, b, c, xs, ys, zs, rfl, hx, hy, hz, fun D nD => ⟨fun i m H => m = xs.length - i ∧ i ≤ xs.length ∧ Pv D i H, ⟨xs.length, by simp, Nat.zero_le _, h0 D nD⟩, ?_⟩⟩
  rintro i m H' ⟨rfl, hi, p⟩
  obtain ⟨qx, qy, qz⟩ := hl D i H' p
  by_cases hlt : i < xs.length
  · refine .inr ⟨⟨xs, ys, zs, xs[i], ys[i]'(by omega), zs[i]'(by omega), qx, qy, qz, List.getElem?_eq_getElem hlt, List.getElem?_eq_getElem _, List.getElem?_eq_getElem _⟩, Pv D (i + 1), fun H2 p' => ⟨xs.length - (i + 1), by omega, rfl, hlt, p'⟩, fun v H2 y => ?_⟩
    obtain ⟨T, x, y, z, rfl, nT, rfl, hx', hy', hz'⟩ := y
    exact hs D i x y z T H' _ (hx' xs qx) (hy' ys qy) (hz' zs qz) p nT (Same.new nT) upd_same
  · have e' : i = xs.length := by omega
    subst e'
    exact .inl ⟨⟨xs, ys, zs, qx, qy, qz, rfl, e, e2⟩, hd D H' nD p⟩
end Co

set_option Elab.async false
set_option linter.all false
set_option maxRecDepth 100000
set_option maxHeartbeats 4000000
namespace Co
open PySem PySem.Spec PyProof.Rows L2
/-! ### sorted(rows) of pairs of an int and a text, the whole order told -/
abbrev pO : KeyOrd := listOrd itemOrd
def pK (i : Int) (x : Str) : pO.α := [Sum.inl i, Sum.inr x.cps.toList]
theorem pK_inj {i j : Int} {x y : Str} (h : pK i x = pK j y) : i = j ∧ x = y := by
  unfold pK at h
  obtain ⟨h1, h2⟩ := List.cons.inj h
  obtain ⟨h2, _⟩ := List.cons.inj h2
  refine ⟨Sum.inl.inj h1, ?_⟩
  have h3 := Sum.inr.inj h2
  obtain ⟨⟨a⟩⟩ := x
  obtain ⟨⟨b⟩⟩ := y
  simp only at h3
  rw [h3]
/-- the key of the pair at v -/
def kP (H : Hp) : V → pO.α
  | .ref t => match H t with
    | some (.tup [.int i, .str z]) => pK i z
    | _ => []
  | _ => []
theorem kP_at {H : Hp} {t : Addr} {i : Int} {z : Str} (h : H t = some (.tup [.int i, .str z])) : kP H (.ref t) = pK i z := by
  show (match H t with
    | some (.tup [.int i, .str z]) => pK i z
    | _ => []) = _
  rw [h]
theorem perm_eq {O : KeyOrd} : ∀ {l m : List O.α}, l.Perm m → l.Pairwise O.kle → m.Pairwise O.kle → l = m
  | [], m, p, _, _ => by
    have := p.length_eq
    cases m with
    | nil => rfl
    | cons _ _ => simp at this
  | a :: l, [], p, _, _ => by
    have := p.length_eq
    simp at this
  | a :: l, b :: m, p, h1, h2 => by
    obtain ⟨h1a, h1b⟩ := List.pairwise_cons.mp h1
    obtain ⟨h2a, h2b⟩ := List.pairwise_cons.mp h2
    have rf : ∀ x, O.kle x x := fun x => O.irrefl x
    have ab : O.kle a b := by
      rcases List.mem_cons.mp (p.mem_iff.mpr (List.mem_cons_self (a := b))) with e | e
      · rw [e]; exact rf _
      · exact h1a b e
    have ba : O.kle b a := by
      rcases List.mem_cons.mp (p.mem_iff.mp (List.mem_cons_self (a := a))) with e | e
      · rw [e]; exact rf _
      · exact h2a a e
    have e : a = b := O.total a b ba ab
    subst e
    rw [perm_eq (List.Perm.cons_inv p) h1b h2b]
def rSortedP (K : PySem.W.Frag) : List V → Hp → VK → Prop := fun vs H Q => ∃ a xs, vs = [V.ref a] ∧ SqL K H a xs ∧ (∀ x ∈ xs, ∃ t i z, x = V.ref t ∧ H t = some (.tup [.int i, .str z])) ∧
  ∀ ys p, ys.Perm xs → (ys.map (kP H)).Pairwise pO.kle → H p = none → Q (.ref p) (upd H p (.lst ys))
theorem cr_sortedP {X : Cx} : CallR X (.builtin "sorted") (rSortedP X.K) := by
  intro pins s σ H vs us Q I r h
  obtain ⟨a, xs, rfl, hs, hx, q⟩ := h
  obtain ⟨its, rv, hl, hz⟩ := I.list hs
  obtain ⟨u, rfl, ru⟩ := vals1 r
  obtain rfl : u = Value.ref a := ru
  obtain ⟨e1, e2⟩ := refs_back rv fun x m => by
    obtain ⟨t, _, _, e, _⟩ := hx x m
    exact ⟨t, e⟩
  have each : ∀ v ∈ its, ∃ t i z o t1 t2 n, v = Value.ref t ∧ H t = some (.tup [.int i, .str z]) ∧ s.heap.get? t = some o ∧ o.cls = .type "tuple" ∧ o.data = .seq #[.int i t1, .str z t2] n := fun v hv => by
    obtain ⟨t, rfl⟩ := e2 v hv
    have hm : V.ref t ∈ xs := by rw [e1]; exact List.mem_map.mpr ⟨_, hv, rfl⟩
    obtain ⟨t', i, z, e, ht⟩ := hx _ hm
    cases e
    obtain ⟨_, its2, r2, o, ho, hc, n, hd⟩ := I.hok _ _ ht
    obtain ⟨u1, u2, rfl, ri, rj⟩ := vals2 r2
    obtain ⟨t1, rfl⟩ := ri
    obtain ⟨t2, rfl⟩ := rj
    exact ⟨t, i, z, o, t1, t2, n, rfl, ht, ho, hc, hd⟩
  have key : ∀ v ∈ its, G.tupKeyC s.heap shp v = some (kP H (backV v)) := fun v hv => by
    obtain ⟨t, i, z, o, t1, t2, n, rfl, ht, ho, hc, hd⟩ := each v hv
    have ek : kP H (backV (.ref t)) = pK i z := kP_at ht
    rw [ek]
    unfold G.tupKeyC G.isTupObj
    simp only [ho, hc]
    rw [if_pos (by decide)]
    unfold tupKey
    simp only [ho, hd]
    rfl
  obtain ⟨fs, ht⟩ := tups_ex (h := s.heap) (vs := its) fun v hv => by
    obtain ⟨t, i, z, o, t1, t2, n, rfl, ht, ho, hc, hd⟩ := each v hv
    exact ⟨.int i t1, t, o, _, n, rfl, ho, hc, hd, rfl, fun _ => ⟨_, _, rfl⟩, fun e => absurd e (by decide)⟩
  refine G.sorted_tups (shape := shp) hl.isList ht (fun v hv => ⟨_, key v hv⟩) (by rw [← rv.length]; exact hz) fun st' hp hst _ => ?_
  have mem : ∀ p, p ∈ (arrOf st').toList → p.1 = p.2 ∧ p.1 ∈ its := fun p hp' => by
    have h2 : p ∈ (pairsOf its).toList := (Array.perm_iff_toList_perm.mp hp).mem_iff.mp hp'
    rw [pairsOf_toList] at h2
    exact mem_zip_self h2
  have sz : (arrOf st').size = its.length := by rw [hp.size_eq, pairsOf_size]
  obtain ⟨ep, he'⟩ := sortedAll_at s.heap its ((arrOf st').map (·.2))
  have ol : ((arrOf st').map (·.2)).toList = (arrOf st').toList.map (·.2) := Array.toList_map
  have om : ∀ u ∈ (arrOf st').toList.map (·.2), ∃ a, u = Value.ref a := fun u hu => by
    obtain ⟨p, hp', rfl⟩ := List.mem_map.mp hu
    obtain ⟨e, m⟩ := mem p hp'
    exact e2 _ (e ▸ m)
  have pm : (((arrOf st').toList.map (·.2)).map backV).Perm xs := by
    rw [e1]
    refine List.Perm.map _ ?_
    have := (Array.perm_iff_toList_perm.mp hp).map (·.2)
    rw [pairsOf_toList] at this
    have ez : (its.zip its).map (·.2) = its := by rw [List.map_snd_zip]; omega
    rw [ez] at this
    exact this
  have hlen : (((arrOf st').toList.map (·.2)).map backV).length ≤ sizeLine := by rw [pm.length_eq]; exact hz
  refine ⟨.ref _, upd H (s.heap.objs.size + 1) (.lst (((arrOf st').toList.map (·.2)).map backV)), I.laid (t' := s.toks) (fun _ _ => sortedAll_old) (Nat.le_succ _) ⟨hlen, ((arrOf st').map (·.2)).toList, ep, by rw [ol]; exact vals_back om, by rw [Array.toArray_toList]; exact he'⟩, rfl, q _ _ pm ?_ (I.hok.fresh (Nat.le_succ _))⟩
  rw [List.pairwise_iff_getElem]
  intro i j hi hj hij
  simp only [List.length_map, Array.length_toList] at hi hj
  have hK : ∀ k (hk : k < (arrOf st').size), KK (G.tupKindC s.heap shp) (arrOf st') k = kP H (backV (arrOf st')[k].2) := fun k hk => by
    obtain ⟨e, m⟩ := mem (arrOf st')[k] (by simp)
    unfold KK
    rw [Array.getElem?_eq_getElem hk]
    show ((G.tupKeyC s.heap shp (arrOf st')[k].1).getD _) = _
    rw [key _ m, e]
    rfl
  have o := hst i j (Nat.le_of_lt hij) (by rw [pairsOf_size, ← sz]; exact hj)
  rw [hK i hi, hK j hj] at o
  simp only [List.getElem_map, Array.getElem_toList]
  exact o
theorem w_sortedP {K : PySem.W.Frag} {a : Addr} {xs : List V} {H : Hp} {Q : VK} (h : SqL K H a xs) (hx : ∀ x ∈ xs, ∃ t i z, x = V.ref t ∧ H t = some (.tup [.int i, .str z])) (q : ∀ ys p H', ys.Perm xs → (ys.map (kP H)).Pairwise pO.kle → H p = none → Same H H' → H' p = some (.lst ys) → Q (.ref p) H') : rSortedP K [.ref a] H Q :=
  ⟨a, xs, rfl, h, hx, fun ys p h1 h2 h3 => q ys p _ h1 h2 h3 (Same.new h3) upd_same⟩
/-! ### p <= q of two such pairs -/
def leP (i : Int) (x : Str) (j : Int) (y : Str) : Bool := if i = j then (if x = y then true else !decide (y.cps.toList < x.cps.toList)) else decide (i ≤ j)
def rLePS (K : PySem.W.Frag) : R2 := fun u v H Q => ∃ (a b : Addr) (i j : Int) (x y : Str), u = .ref a ∧ v = .ref b ∧ SqT K H a [.int i, .str x] ∧ SqT K H b [.int j, .str y] ∧ Q (.bl (leP i x j y)) H
def eqF (b1 b2 : Bool) (k : Nat) : Bool := if k = 0 then b1 else b2
theorem lex_le2 (b1 b2 c1 c2 : Bool) : Ob.lexAt (eqF b1 b2) (eqF c1 c2) true 0 2 = if b1 = true then (if b2 = true then true else c2) else c1 := by
  rw [Ob.lexAt_succ, Ob.lexAt_succ, Ob.lexAt_zero]
  rfl
theorem leP_eq (i : Int) (x : Str) (j : Int) (y : Str) : leP i x j y = if (i == j) = true then (if (x == y) = true then true else !decide (y.cps.toList < x.cps.toList)) else decide (i ≤ j) := by
  unfold leP
  by_cases e1 : i = j
  · rw [if_pos e1, if_pos (beq_iff_eq.mpr e1)]
    by_cases e2 : x = y
    · rw [if_pos e2, if_pos (beq_iff_eq.mpr e2)]
    · rw [if_neg e2, if_neg (fun z => e2 (beq_iff_eq.mp z))]
  · rw [if_neg e1, if_neg (fun z => e1 (beq_iff_eq.mp z))]
theorem op_lePS {X : Cx} (hu : X.A.units < cLine) : OpR X (compareOp .LtE) (rLePS X.K) := by
  intro pins s σ H u0 v0 v u Q I rx ry h
  obtain ⟨a, b, i, j, x, y, rfl, rfl, ha, hb, q⟩ := h
  cases rx
  cases ry
  obtain ⟨its, r1, p1, _⟩ := I.tuple ha
  obtain ⟨its2, r2, p2, _⟩ := I.tuple hb
  obtain ⟨_, _, rfl, ⟨t1, rfl⟩, ⟨t2, rfl⟩⟩ := vals2 r1
  obtain ⟨_, _, rfl, ⟨t3, rfl⟩, ⟨t4, rfl⟩⟩ := vals2 r2
  rw [leP_eq, ← lex_le2] at q
  generalize eb : (!decide (y.cps.toList < x.cps.toList)) = b2 at q
  have rs : Ob.RcOp .LtE X.A.in1 s (.str x t2) (.str y t4) b2 := fun _ _ _ _ h => PySem.P.le_str (by rw [← eb] at h; exact h)
  have R := Ob.RcOp.tuples_le (A := X.A) (s := s) (e := eqF (i == j) (x == y)) (r := eqF (decide (i ≤ j)) b2) p1 p2 hu (fun k h1 h2 => ?_) (fun k h1 h2 _ => ?_)
  · exact R X.prog X.w X.xe (EP X pins σ Q) ⟨.bl _, H, I, rfl, q⟩
  · have h1' : k < 2 := h1
    match k, h1' with
    | 0, _ => exact SeqAt.EqAt.int_int i t1 j t3
    | 1, _ => exact SeqAt.EqAt.str_str x t2 y t4
  · have h1' : k < 2 := h1
    match k, h1' with
    | 0, _ => exact Ob.RcOp.le_int i j t1 t3
    | 1, _ => exact rs
theorem op_lePSK {X : Cx} {K' : PySem.W.Frag} (hK : X.K = K') (hu : X.A.units < cLine) : OpR X (compareOp .LtE) (rLePS K') := by subst hK; exact op_lePS hu
theorem w_lePS {K : PySem.W.Frag} {a b : Addr} {i j : Int} {x y : Str} {H : Hp} {Q : VK} (h1 : H a = some (.tup [.int i, .str x])) (h2 : H b = some (.tup [.int j, .str y])) (q : Q (.bl (leP i x j y)) H) : rLePS K (.ref a) (.ref b) H Q := ⟨a, b, i, j, x, y, rfl, rfl, .of h1, .of h2, q⟩
theorem hu1 {A : Around} {k : Nat} (hr : Room k A) : A.units < cLine := by have := hr.un; omega
/-! ### for over zip of two lists -/
theorem w_forZA {K : PySem.W.Frag} {g : TG} {tb : TS} {D : Ends} {σ : L2.St} {H : Hp} {a b : Addr} (xs ys : List V) (n : Nat) (Pv : Nat → L2.St → Hp → Prop) (hx : SqL K H a xs) (hy : SqL K H b ys) (e : n = min xs.length ys.length) (h0 : Pv 0 σ H) (hl : ∀ i σ H, Pv i σ H → SqL K H a xs ∧ SqL K H b ys)
    (hs : ∀ i x y σ H T H1, xs[i]? = some x → ys[i]? = some y → Pv i σ H → H T = none → Same H H1 → H1 T = some (.tup [x, y]) → g (.ref T) σ H1 fun σ2 H2 => tb { D with nx := Pv (i + 1), ct := Pv (i + 1), bk := D.nx } σ2 H2)
    (hd : ∀ σ H, Pv n σ H → D.nx σ H) : kZA K (kFor g tb D σ) [.ref a, .ref b] H := by
  refine ⟨a, b, xs, ys, rfl, .inl ⟨hx, hy, fun i m σ H => m = n - i ∧ i ≤ n ∧ Pv i σ H, ⟨n, by simp, Nat.zero_le _, h0⟩, ?_⟩⟩
  rintro i m σ H ⟨rfl, hi, p⟩
  obtain ⟨qx, qy⟩ := hl i σ H p
  by_cases hlt : i < n
  · refine .inr ⟨⟨xs, ys, xs[i]'(by omega), ys[i]'(by omega), qx, qy, List.getElem?_eq_getElem _, List.getElem?_eq_getElem _⟩, Pv (i + 1), fun σ' H' p' => ⟨n - (i + 1), by omega, rfl, hlt, p'⟩, fun v H' y => ?_⟩
    obtain ⟨T, x, y, rfl, nT, rfl, hx', hy'⟩ := y
    exact hs i x y σ H T _ (hx' xs qx) (hy' ys qy) p nT (Same.new nT) upd_same
  · have e' : i = n := by omega
    subst e'
    exact .inl ⟨⟨xs, ys, qx, qy, by omega⟩, hd σ H p⟩
/-! ### comprehensions over a dict's items and keys, the dict locked -/
def kItm (R : It → Hp → Prop) : V → Hp → Prop := fun x H1 => ∃ d o kvs, x = .ref d ∧ H1 d = some (.frz o (.dK kvs)) ∧ R (Iti d o kvs) H1
theorem w_items {td : TE} {σ : L2.St} {H : Hp} {R : It → Hp → Prop} (q : td σ H (kItm R)) : iItems td σ H R := q
def kKeys (R : It → Hp → Prop) : V → Hp → Prop := fun x H1 => ∃ d o, x = .ref d ∧ ((∃ kvs, H1 d = some (.frz o (.dK kvs)) ∧ R (Itk d o kvs) H1) ∨ ∃ kvs, H1 d = some (.frz o (.dT kvs)) ∧ R (Itkt d o kvs) H1)
theorem w_keys {td : TE} {σ : L2.St} {H : Hp} {R : It → Hp → Prop} (q : td σ H (kKeys R)) : iKeys td σ H R := q
theorem w_lock {t : TE} {σ : L2.St} {H : Hp} {Q : VK} (d : Addr) (kvs : List (Key × V)) (h : H d = some (.dK kvs)) (q : ∀ od, t σ (upd H d (.frz od (.dK kvs))) fun v H' => H' d = some (.frz od (.dK kvs)) ∧ Q v (upd H' d (.dK kvs))) : tLockE t σ H Q := ⟨d, _, h, trivial, q⟩
theorem w_lcI {g : TG} {tt : TT} {te : TE} {vs : List Nat} {σ : L2.St} {H : Hp} {Q : VK} {d : Addr} {o : Obj} (kvs : List (Key × V)) (Pv : Addr → Nat → Hp → Prop) (hd0 : H d = some (.frz o (.dK kvs))) (h0 : ∀ D, H D = none → Pv D 0 (upd H D (.lst []))) (hl : ∀ D i H, Pv D i H → H d = some (.frz o (.dK kvs)))
    (hs : ∀ D i k v T H H', kvs[i]? = some (k, v) → Pv D i H → H T = none → Same H H' → H' T = some (.tup [kV k, v]) → g (.ref T) (wipe σ vs) H' fun σ2 H2 => wipe σ2 vs = wipe σ vs ∧ tt σ2 H2 fun b H3 =>
      if b = true then te σ2 H3 fun y H4 => ∃ acc, H4 D = some (.lst acc) ∧ acc.length < sizeLine ∧ Pv D (i + 1) (upd H4 D (.lst (acc ++ [y]))) else Pv D (i + 1) H3) (hd : ∀ D H', H D = none → Pv D kvs.length H' → Q (.ref D) H') : kItm (kLc g tt te vs σ Q) (.ref d) H := by
  refine ⟨d, o, kvs, rfl, hd0, fun D nD => ⟨fun i m H => m = kvs.length - i ∧ i ≤ kvs.length ∧ Pv D i H, ⟨kvs.length, by simp, Nat.zero_le _, h0 D nD⟩, ?_⟩⟩
  rintro i m H' ⟨rfl, hi, p⟩
  have q := hl D i H' p
  by_cases hlt : i < kvs.length
  · refine .inr ⟨⟨q, hlt⟩, Pv D (i + 1), fun H2 p' => ⟨kvs.length - (i + 1), by omega, rfl, hlt, p'⟩, fun x H2 y => ?_⟩
    obtain ⟨T, k, v, hkv, rfl, nT, rfl⟩ := y
    exact hs D i k v T H' _ hkv p nT (Same.new nT) upd_same
  · have e : i = kvs.length := by omega
    subst e
    exact .inl ⟨⟨q, Nat.le_refl _⟩, hd D H' nD p⟩
theorem w_lcK {g : TG} {tt : TT} {te : TE} {vs : List Nat} {σ : L2.St} {H : Hp} {Q : VK} {d : Addr} {o : Obj} (kvs : List (Key × V)) (Pv : Addr → Nat → Hp → Prop) (hd0 : H d = some (.frz o (.dK kvs))) (h0 : ∀ D, H D = none → Pv D 0 (upd H D (.lst []))) (hl : ∀ D i H, Pv D i H → H d = some (.frz o (.dK kvs)))
    (hs : ∀ D i k v H, kvs[i]? = some (k, v) → Pv D i H → g (kV k) (wipe σ vs) H fun σ2 H2 => wipe σ2 vs = wipe σ vs ∧ tt σ2 H2 fun b H3 =>
      if b = true then te σ2 H3 fun y H4 => ∃ acc, H4 D = some (.lst acc) ∧ acc.length < sizeLine ∧ Pv D (i + 1) (upd H4 D (.lst (acc ++ [y]))) else Pv D (i + 1) H3) (hd : ∀ D H', H D = none → Pv D kvs.length H' → Q (.ref D) H') : kKeys (kLc g tt te vs σ Q) (.ref d) H := by
  refine ⟨d, o, rfl, .inl ⟨kvs, hd0, fun D nD => ⟨fun i m H => m = kvs.length - i ∧ i ≤ kvs.length ∧ Pv D i H, ⟨kvs.length, by simp, Nat.zero_le _, h0 D nD⟩, ?_⟩⟩⟩
  rintro i m H' ⟨rfl, hi, p⟩
  have q := hl D i H' p
  by_cases hlt : i < kvs.length
  · refine .inr ⟨⟨q, hlt⟩, Pv D (i + 1), fun H2 p' => ⟨kvs.length - (i + 1), by omega, rfl, hlt, p'⟩, fun x H2 y => ?_⟩
    obtain ⟨rfl, k, v, hkv, rfl⟩ := y
    exact hs D i k v _ hkv p
  · have e : i = kvs.length := by omega
    subst e
    exact .inl ⟨⟨q, Nat.le_refl _⟩, hd D H' nD p⟩
end Co

set_option Elab.async false
set_option linter.all false
set_option maxRecDepth 100000
set_option maxHeartbeats 4000000
namespace Co
open PySem PySem.Spec PyProof.Rows L2
theorem flat_strs (xs : List Str) : (xs.map V.str).all flatV = true := by
  rw [List.all_eq_true]
  intro v hv
  obtain ⟨s, _, rfl⟩ := List.mem_map.mp hv
  rfl
theorem inV_strs (k : Str) (xs : List Str) : inV (.str k) (xs.map V.str) = decide (k ∈ xs) := by
  induction xs with
  | nil => rfl
  | cons x r ih =>
    have e : inV (.str k) ((x :: r).map V.str) = (decide (x = k) || inV (.str k) (r.map V.str)) := rfl
    rw [e, ih, Bool.eq_iff_iff]
    simp only [Bool.or_eq_true, decide_eq_true_eq, List.mem_cons]
    constructor
    · rintro (h | h)
      · exact .inl h.symm
      · exact .inr h
    · rintro (h | h)
      · exact .inl h.symm
      · exact .inr h
theorem w_inLs {K : PySem.W.Frag} {k : Str} {p : Addr} {xs : List Str} {H : Hp} {Q : VK} (h : SqL K H p (xs.map V.str)) (q : Q (.bl (decide (k ∈ xs))) H) : rIn K false (.str k) (.ref p) H Q := ⟨p, _, rfl, .inl h, rfl, flat_strs xs, by rw [inV_strs]; exact q⟩
end Co

set_option Elab.async false
set_option linter.all false
set_option maxRecDepth 100000
set_option maxHeartbeats 4000000
open PySem PySem.Spec PyProof.Rows L2 Co
namespace Co
open He HandSHeadRun PySem.W PySem.Calls
/-! a head that tells of an own error's class: its `__init__` has a cell -/
def frW (g : Addr → Option Obj) (n : Nat) : PySem.W.Frag := frG g (lvl g n [mainGlobals] ++ [cStatics])
abbrev FnE : Type := Option (Str × Str × Arguments × FuncBody × Scope × Addr × List Str × Value × Value × Addr)
def errA (K : PySem.W.Frag) : Addr := ma K (ga K "LinkError") "__init__"
def feObs (K : PySem.W.Frag) : FnE := match K.lookup (errA K) with
  | some ⟨_, _, .func fd, _⟩ => some (fd.name, fd.qualname, fd.params, fd.body, fd.scope, fd.globals, fd.closure.map (·.1), fd.defaults, fd.kwdefaults, fd.builtins)
  | _ => none
def errQ : Str := "LinkError.__init__"
def feVal : FnE := some ("__init__", errQ, OwnL.iA, .stmts (OwnL.iB), OwnL.iS, mainGlobals, ["__class__"], .none, .none, builtinsNs)
def clsZ (K : PySem.W.Frag) (C : Addr) : Bool := match K.lookup C with
  | some ⟨.type t, _, .cls cd, sl⟩ => decide (t = "type") && (match cd.mro, sl.toList with
    | .ref C' :: bm, [_, _, _, _, some (.builtin n), _] => decide (C' = C) && (decide (n = "ValueError.__new__") && (!cd.hasDel && (cd.hasDict && HandSPX.refsVE bm)))
    | _, _ => false)
  | _ => false
theorem clsZ_ok {K : PySem.W.Frag} {C : Addr} (h : clsZ K C = true) : ∃ nm q N bs bm sn sub ab col dd k0 k1 k2 k3 k5, K.lookup C = some (excClassObj nm q C N bs bm true sn sub ab col dd k0 k1 k2 k3 k5 "ValueError.__new__") ∧ HandSPX.refsVE bm = true := by
  unfold clsZ at h
  split at h
  · rename_i t dd cd sl e
    obtain ⟨h1, h2⟩ := ba h
    have e1 : t = "type" := of_decide_eq_true h1
    subst e1
    split at h2
    · rename_i C' bm k0 k1 k2 k3 n k5 e2 e3
      obtain ⟨g1, h3⟩ := ba h2
      obtain ⟨g2, h4⟩ := ba h3
      obtain ⟨g3, h5⟩ := ba h4
      obtain ⟨g4, g5⟩ := ba h5
      have e4 : C' = C := of_decide_eq_true g1
      have e5 : n = "ValueError.__new__" := of_decide_eq_true g2
      subst e4 e5
      obtain ⟨nm, bs, mro, ns, qn, hd, sn, sub, ab, col, del⟩ := cd
      simp only at e2 g3 g4
      subst e2 g4
      have g3' : del = false := by cases del <;> simp_all
      subst g3'
      obtain ⟨sl'⟩ := sl
      simp only at e3
      subst e3
      exact ⟨nm, qn, ns, bs, bm, sn, sub, ab, col, dd, k0, k1, k2, k3, k5, e, g5⟩
    · cases h2
  · cases h
def cellZ (K : PySem.W.Frag) (C cc : Addr) : Bool := match K.lookup cc with
  | some ⟨_, _, .cell (some (.ref D)), _⟩ => decide (D = C)
  | _ => false
def codeZ (K : PySem.W.Frag) (file : Str) (cda : Addr) : Bool := match K.lookup cda with
  | some ⟨_, _, .fields vs, _⟩ => (match (vs[2]? : Option Value) with
    | some (.str f _) => decide (f = file)
    | _ => false)
  | _ => false
def initZ (K : PySem.W.Frag) (file : Str) : Bool := match K.lookup (errA K) with
  | some ⟨_, _, .func fd, _⟩ => PySem.W.codeIn K fd.code errQ && ((match fd.closure with
    | [(_, cc)] => cellZ K (ga K "LinkError") cc
    | _ => false) && (match fd.code with
    | .ref cda => codeZ K file cda
    | _ => false))
  | _ => false
/-- the looks at the class -/
def exZ (file : Str) (K : PySem.W.Frag) : Bool :=
  let C := ga K "LinkError"
  [gloZ "LinkError" K, clsZ K C, eqO (PySem.W.findIn K (.ref C) "__setattr__") (some (some (.builtin "object.__setattr__"))),
   eqO (PySem.W.findIn K (.ref C) "__getattribute__") (some (some (.builtin "BaseException.__getattribute__"))), eqO (PySem.W.findIn K (.ref C) "__getattr__") (some none), eqO (PySem.W.findIn K (.ref C) "part") (some none), eqO (PySem.W.findIn K (.ref C) "code") (some none),
   eqO (PySem.W.findIn K (.ref C) "__init__") (some (some (.ref (errA K)))), eqO (some (PySem.W.typeIn K (.ref (errA K)))) (some (some (.type "function"))), PySem.W.keepIn K (.ref C), decide (PySem.W.subIn K (.ref C) (.type "BaseException") = some true),
   decide (PySem.W.subIn K (.ref C) (.type "ValueError") = some true), eqO (some (PySem.W.typeIn K (.ref C))) (some (some (.type "type"))), PySem.W.hasDictIn K C, decide (PySem.W.exmOne K (.ref C) (.ref C) = some true),
   PySem.W.excInitIn K C [.type "ValueError", .type "Exception", .type "BaseException", .type "object"] "ValueError.__new__", eqO (PySem.W.ks_superIn K C C "__init__") (some (some (.builtin "ValueError.__init__"))), decide (PySem.W.mroIn K C (.ref C) = some true),
   eqO (PySem.W.nsIn K cStatics "thirdparty.any") (some none), (Fa.free "super").ok K, initZ K file].all id
theorem ex_txt {prog : Program} {K : PySem.W.Frag} {h : Heap} {mg : Str → Option Value} {file : Str} (X : K.In h) (G : h.Ns mainGlobals mg) (htop : (prog.main.scope.names.lookup ("super" : Str)).isSome = false) (hfile : ((prog.main.file : Str) == file) = true)
    (c : exZ file K = true) (f : feObs K = feVal) : OwnL.Txt prog K mg (ga K "LinkError") (errA K) := by
  have q : ∀ b, b ∈ _ → id b = true := List.all_eq_true.mp c
  simp only [List.mem_cons, List.not_mem_nil, or_false, forall_eq_or_imp, forall_eq, id] at q
  obtain ⟨q1, q2, q3, q4, q5, q6, q7, q8, q9, q10, q11, q12, q13, q14, q15, q16, q17, q18, q19, q20, q21⟩ := q
  refine { gC := PySem.W.mg_of X G (zGlo q1), cls := clsZ_ok q2, sa := eqO_ok q3, ga := eqO_ok q4, gg := eqO_ok q5, noN := eqO_ok q6, noM := eqO_ok q7, iC := eqO_ok q8, tC := Option.some.inj (eqO_ok q9), kC := q10, exC := of_decide_eq_true q11, exV := of_decide_eq_true q12, tyC := Option.some.inj (eqO_ok q13), hdC := q14, te := of_decide_eq_true q15, init := q16, sup := eqO_ok q17, self := of_decide_eq_true q18, third := eqO_ok q19, noS := zFree X G q20, top := htop, fn := ?_ }
  unfold feObs at f
  unfold initZ at q21
  cases e : K.lookup (errA K) with
  | none => rw [e] at f; cases f
  | some o =>
    obtain ⟨oc, od, dt, osl⟩ := o
    rw [e] at f q21
    cases dt with
    | func fd =>
      obtain ⟨n1, n2, n3, n4, n5, n6, n7, n8, n9, n10, n11, n12, n13, n14, n15⟩ := fd
      have f2 : (some (n1, n2, n3, n4, n5, n6, n7.map (·.1), n8, n9, n15) : FnE) = feVal := f
      unfold feVal at f2
      simp only [Option.some.injEq, Prod.mk.injEq] at f2
      obtain ⟨h1, h2, h3, h4, h5, h6, h7, h8, h9, h15⟩ := f2
      obtain ⟨c1, c23⟩ := ba q21
      obtain ⟨c2, c3⟩ := ba c23
      simp only at c1 c2 c3
      match n7, h7, c2 with
      | [(x, cc)], h7, c2 =>
        have hx : x = "__class__" := (List.cons.inj h7).1
        subst hx
        match n13, c1, c3 with
        | .ref cda, c1, c3 =>
          have c3' : codeZ K file cda = true := c3
          have c2' : cellZ K (ga K "LinkError") cc = true := c2
          unfold codeZ at c3'
          unfold cellZ at c2'
          split at c3'
          · rename_i a1 a2 vs a3 ec
            split at c3'
            · rename_i fl tf ev
              split at c2'
              · rename_i b1 b2 D b3 ecell
                have eD : D = ga K "LinkError" := of_decide_eq_true c2'
                have efl : fl = file := of_decide_eq_true c3'
                subst eD efl
                subst h1 h2 h3 h4 h5 h6 h8 h9 h15
                exact ⟨errQ, oc, od, n10, n11, n12, cda, cc, n14, osl, a1, b1, a2, b2, vs, a3, b3, fl, tf, rfl, c1, ec, ev, hfile, ecell⟩
              · cases c2'
            · cases c3'
          · cases c3'
    | _ => cases f
end Co
namespace Co
open He HandSHeadRun PySem.W PySem.Calls
def obsX (n : Nat) (cks : List (PySem.W.Frag → Bool)) (fn : List Fx) (ts : List Tab) (g : Addr → Option Obj) : AlZ × FnE := (obsZ cks fn ts (frW g n), feObs (frW g n))
def hookX (n : Nat) (cks : List (PySem.W.Frag → Bool)) (fn : List Fx) (ts : List Tab) : PySem.W.Hook where
  α := AlZ × FnE
  obs := fun s => obsX n cks fn ts s.heap.get?
  val := fun w => (valZ fn ts w, feVal)
  says := fun w h => ∃ K : PySem.W.Frag, K.In h ∧ SaysZ cks fn ts w K ∧ feObs K = feVal
  of := fun _ _ e => ⟨_, frG_in, (Prod.mk.inj e).1, (Prod.mk.inj e).2⟩
  keeps := fun _ _ _ ⟨K, hK, c⟩ k => ⟨K, PySem.W.Frag.In.keeps hK k, c⟩
theorem obsX_eq {n : Nat} {cks : List (PySem.W.Frag → Bool)} {fn : List Fx} {ts : List Tab} {g : Addr → Option Obj} {s : Shared} (h : ∀ a, g a = s.heap.get? a) : obsX n cks fn ts g = (hookX n cks fn ts).obs s := by
  have e : g = s.heap.get? := funext h
  rw [e] <;> rfl
section
variable {p q : Program} {cks : List (PySem.W.Frag → Bool)} {fn : List Fx} {ts : List Tab} {n M : Nat} {loose : List PySem.Str} {r : PySem.W.OpenRow} {w : World}
noncomputable def KX (n : Nat) (s : PySem.W.SharedT) : PySem.W.Frag := frW (getT s) n
theorem runX
    (e1 : ∀ os, lookEnd r M w os (fun s => (lookZ r w s, seenQ q loose (PySem.importedModules r.prog.main.body) (fun s => PySem.W.xlAt q [] s && PySem.W.recOk r.toRowW.records s) s.abs)) (true, PySem.W.openGood q loose))
    (e2 : ∀ os, lookEnd r M w os (fun s => cks.all fun f => f (KX n s)) true)
    (e3 : ∀ os, lookEnd r M w os (fun s => (fn.all (fun d => d.ok (KX n s)), fn.map (fxObs (KX n s)), ts.map fun t => dicW (KX n s) (t.1 (KX n s)))) (true, fn.map Fx.val, ts.map fun t => some (keysIn w.params t.2)))
    (e4 : ∀ os, lookEnd r M w os (fun s => feObs (KX n s)) feVal) :
    RunEq r q (hookX n cks fn ts) (fun s => obsX n cks fn ts (getT s)) M loose w := by
  intro os
  have h1 := e1 os
  have h2 := e2 os
  have h3 := e3 os
  have h4 := e4 os
  unfold lookEnd at h1 h2 h3 h4
  cases q : endF (stepQ (denQ tabQ) r.prog w) M r.prog w os with
  | none =>
    rw [q] at h1
    cases h1
  | some s =>
    rw [q] at h1 h2 h3 h4
    obtain ⟨h11, h12⟩ := Prod.mk.inj (Option.some.inj h1)
    have h2' := Option.some.inj h2
    obtain ⟨h31, h3'⟩ := Prod.mk.inj (Option.some.inj h3)
    obtain ⟨h32, h33⟩ := Prod.mk.inj h3'
    have h4' : feObs (KX n s) = feVal := Option.some.inj h4
    show some (_, _, _) = some (_, _, _)
    have h0 : ((cks.all fun f => f (KX n s)) && fn.all fun d => d.ok (KX n s)) = true := by
      have h2'' : (cks.all fun f => f (KX n s)) = true := h2'
      have h31' : (fn.all fun d => d.ok (KX n s)) = true := h31
      rw [h2'', h31']
      rfl
    refine congrArg some (Prod.ext h11 (Prod.ext h12 (Prod.ext (Prod.ext h0 (Prod.ext h32 h33)) h4')))
end
end Co
namespace Co
/-- what stands under a key, an object -/
def nsA (K : PySem.W.Frag) (a : Addr) (x : Str) : Addr := match PySem.W.nsIn K a x with
  | some (some (.ref b)) => b
  | _ => 0
end Co


set_option Elab.async false
set_option linter.all false
set_option maxRecDepth 100000
set_option maxHeartbeats 4000000
open PySem PySem.Spec PyProof.Rows L2 Co
local macro_rules | `(tactic| walk_at "side") => `(tactic| first | assumption | (refine wide_div (b := 40) ?_ (show _ < 1099511627776 from ?_) (by decide) (by decide) <;> omega) | (dsimp only [CDiv, CPow, CMul, CDivW, CMulW]; omega) | omega | decide)
local macro_rules | `(tactic| walk_at "w1") => `(tactic| first
  | ((with_reducible refine' w_var ?hv ?_); (case hv => exact rfl))
  | (with_reducible refine w_c ?_)
  | (with_reducible refine w_op ?_)
  | (with_reducible refine w_un ?_)
  | (with_reducible refine w_I0 ?_)
  | (with_reducible refine w_p32 ?_)
  | (with_reducible refine w_p31 ?_)
  | (with_reducible refine w_p26 ?_)
  | (with_reducible refine w_p22 ?_)
  | (with_reducible refine w_p20 ?_)
  | (with_reducible refine w_p18 ?_)
  | (with_reducible refine w_p17 ?_)
  | (with_reducible refine w_p16 ?_)
  | (with_reducible refine w_p14 ?_)
  | (with_reducible refine w_p13 ?_)
  | ((with_reducible refine w_I ?hc ?_); (case hc => walk_at "side"))
  | (with_reducible refine w_U ?_)
  | (with_reducible refine w_eqI ?_)
  | (with_reducible refine w_neI ?_)
  | (with_reducible refine w_eqS ?_)
  | ((with_reducible refine w_eq ?hc ?_); (case hc => exact rfl))
  | ((with_reducible refine w_ne ?hc ?_); (case hc => exact rfl))
  | (with_reducible refine w_test ?_)
  | (with_reducible refine w_B ?_)
  | (with_reducible refine w_bl ?_)
  | (with_reducible refine w_if ?_)
  | (with_reducible refine w_ifB ?_)
  | (with_reducible refine w_isB ?_)
  | (with_reducible refine w_notB ?_)
  | (with_reducible refine w_isiInt ?_)
  | (with_reducible refine w_isiIntB ?_)
  | (with_reducible refine w_andT ?_)
  | (with_reducible refine w_orT ?_)
  | (with_reducible refine w_notT ?_)
  | (with_reducible refine w_andV ?_)
  | (with_reducible refine w_orV ?_)
  | (with_reducible refine w_notV ?_)
  | (with_reducible refine w_chain ?_)
  | (with_reducible refine w_seq ?_)
  | (with_reducible refine w_next ?_)
  | (with_reducible refine w_ret ?_)
  | (with_reducible refine w_retN ?_)
  | (with_reducible refine w_ifS ?_)
  | (with_reducible refine w_asg ?_)
  | (with_reducible refine w_name ?_)
  | (with_reducible refine w_drop ?_)
  | (with_reducible refine w_nil ?_)
  | (with_reducible refine w_cons ?_)
  | (with_reducible refine w_call ?_)
  | (with_reducible refine w_cb ?_)
  | (with_reducible refine w_sub ?_)
  | (with_reducible refine w_gNil ?_)
  | (with_reducible refine w_gCons ?_)
  | ((with_reducible refine' w_gTup ?hh ?hn ?_); (case hh => assumption); (case hn => exact rfl))
  | (with_reducible refine w_for ?_)
  | (with_reducible refine w_iL ?_)
  | (with_reducible refine w_iT ?_)
  | (with_reducible refine w_rng1 ?_)
  | (with_reducible refine w_rng2 ?_)
  | (with_reducible refine w_lc ?_)
  | (with_reducible refine w_zST ?_)
  | (with_reducible refine w_sc ?_)
  | ((with_reducible refine' w_aug ?hh ?_); (case hh => exact rfl))
  | (with_reducible refine w_ipI ?_)
  | (with_reducible refine w_iSt ?_)
  | (with_reducible refine w_sl ?_)
  | (with_reducible refine w_part ?_)
  | (with_reducible refine w_noPart ?_)
  | (with_reducible refine w_exI ?_)
  | (with_reducible refine w_m1 ?_)
  | (with_reducible refine w_isS ?_)
  | (with_reducible refine w_starts ?_)
  | (with_reducible refine w_bm ?_)
  | ((with_reducible refine' w_tyL ?hh ?_); (case hh => assumption))
  | (with_reducible refine w_star ?_)
  | (with_reducible refine w_inSg ?_)
  | (with_reducible refine w_yes ?_)
  | (with_reducible refine w_tup ?_)
  | (with_reducible refine w_lst ?_)
  | ((with_reducible refine' w_ixL ?hh ?ha ?_); (case hh => assumption); (case ha => exact rfl))
  | ((with_reducible refine' w_ixT ?hh ?ha ?_); (case hh => assumption); (case ha => exact rfl))
  | ((with_reducible refine' w_setL ?hh ?ha ?_); (case hh => assumption); (case ha => exact rfl))
  | ((with_reducible refine' w_lenL ?hh ?_); (case hh => assumption))
  | (with_reducible refine w_int1 ?_)
  | (with_reducible refine w_abs ?_)
  | (with_reducible refine w_nT ?_)
  | (with_reducible refine w_nF ?_)
  | (with_reducible refine w_itT ?_)
  | (with_reducible refine w_itF ?_)
  | ((with_reducible refine w_spI1 ?hc ?_); (case hc => walk_at "side"))
  | ((with_reducible refine w_spI2 ?hc ?_); (case hc => walk_at "side")))
local macro_rules | `(tactic| walk_at "ws") => `(tactic| repeat (walk_at "w1"))
local macro_rules | `(tactic| walk_at "wd") => `(tactic| repeat (first | walk_at "w1" | (refine w_decT ?hd ?_; (case hd => decide)) | (refine w_decF ?hd ?_; (case hd => decide))))
local macro_rules | `(tactic| walk_at "wr") => `(tactic| repeat (first | walk_at "w1" | (refine w_ndecF rfl ?_)))

namespace K08
def topS (i : Nat) : Stmt := PySem.Challenge.pw_restitch_k08_linked_parts.main.body.getD i (.Pass ⟨0, 0, 0, 0⟩)
abbrev s_is_number : Stmt := topS 5
abbrev s_is_word : Stmt := topS 6
abbrev s_is_byte : Stmt := topS 7
abbrev s_is_row : Stmt := topS 8
abbrev s_is_name : Stmt := topS 9
abbrev s_is_operand : Stmt := topS 16
abbrev s_encode : Stmt := topS 17
abbrev s_decode : Stmt := topS 18
abbrev s_immediate : Stmt := topS 19
abbrev s_with_sign : Stmt := topS 20
abbrev s_RestitchError : Stmt := topS 22
abbrev s_LinkError : Stmt := topS 23
abbrev s_LinkError_init : Stmt := inClass (topS 23) 0
abbrev s_image_faults : Stmt := topS 27
abbrev s_is_segment : Stmt := topS 28
abbrev s_spans : Stmt := topS 29
abbrev s_length : Stmt := topS 30
abbrev s_out_of_order : Stmt := topS 31
abbrev s_has_bad_size : Stmt := topS 32
abbrev s_are_symbols : Stmt := topS 33
abbrev s_bytes_of_words : Stmt := topS 35
abbrev s_link : Stmt := topS 41
abbrev s_addresses : Stmt := topS 42
abbrev s_exports : Stmt := topS 43
abbrev s_met : Stmt := topS 44
abbrev s_has_form : Stmt := topS 45
abbrev s_changed : Stmt := topS 46
abbrev s_law_draw : Stmt := topS 48
abbrev s_law_take : Stmt := topS 49
abbrev s_law_ops : Stmt := topS 50
abbrev s_law_word : Stmt := topS 51
abbrev s_law_bytes : Stmt := topS 52
abbrev s_law_label : Stmt := topS 53
abbrev s_law_here : Stmt := topS 54
abbrev s_law_put_word : Stmt := topS 55
abbrev s_law_some : Stmt := topS 56
abbrev s_law_register : Stmt := topS 57
abbrev s_law_set : Stmt := topS 58
abbrev s_law_alu : Stmt := topS 59
abbrev s_law_memory : Stmt := topS 60
abbrev s_law_if : Stmt := topS 61
abbrev s_law_loop : Stmt := topS 62
abbrev s_law_call : Stmt := topS 63
abbrev s_law_switch : Stmt := topS 64
abbrev s_law_rows : Stmt := topS 65
abbrev s_law_odd : Stmt := topS 66
abbrev s_law_code_words : Stmt := topS 67
abbrev s_law_values : Stmt := topS 68
abbrev s_law_image : Stmt := topS 69
abbrev s_law_part : Stmt := topS 70
abbrev s_law_places : Stmt := topS 71
abbrev s_law_filled : Stmt := topS 72
abbrev s_law_due : Stmt := topS 73
abbrev s_law : Stmt := topS 74
theorem sc_law_draw : FnScope ["script", "seed", "cell"] ["script"] (defScope s_law_draw) := ⟨rfl, rfl, rfl, by decide +kernel, rfl, by decide +kernel, by decide +kernel⟩
theorem sc_law_take : FnScope ["draw", "many", "found"] ["draw", "many"] (defScope s_law_take) := ⟨rfl, rfl, rfl, by decide +kernel, rfl, by decide +kernel, by decide +kernel⟩
/-! drawing -/
def mabs (n : Int) : Int := if n < 0 then -n else n
theorem mabs_nn (n : Int) : 0 ≤ mabs n := by unfold mabs; split <;> omega
def DrawC (H : Hp) (d c : Addr) : Prop := ∃ (cs : List Int) (i cur seed : Int), H d = some (.lst [.ref c, .int i, .int cur, .int seed]) ∧ H c = some (.lst (cs.map V.int)) ∧ c ≠ d ∧ -1 ≤ i ∧ 0 ≤ cur ∧ 0 ≤ seed ∧ seed < 2147483647 ∧ ∀ x ∈ cs, 0 ≤ x
theorem DrawC.keep {H H' : Hp} {d c : Addr} (h : DrawC H d c) (s1 : ∀ o, H d = some o → H' d = some o) (s2 : ∀ o, H c = some o → H' c = some o) : DrawC H' d c := by
  obtain ⟨cs, i, cur, seed, hd, hc, r⟩ := h
  exact ⟨cs, i, cur, seed, s1 _ hd, s2 _ hc, r⟩
theorem DrawC.same {H H' : Hp} {d c : Addr} (h : DrawC H d c) (s : Same H H') : DrawC H' d c := h.keep (s d) (s c)
theorem DrawC.ne {H : Hp} {d c p : Addr} (h : DrawC H d c) (np : H p = none) : p ≠ d := by
  obtain ⟨cs, i, cur, seed, e, _⟩ := h
  exact (ne_of_none e np).symm
theorem DrawC.nec {H : Hp} {d c p : Addr} (h : DrawC H d c) (np : H p = none) : p ≠ c := by
  obtain ⟨cs, i, cur, seed, _, e, _⟩ := h
  exact (ne_of_none e np).symm
def spDraw (K : PySem.W.Frag) : Sp := fun vs H Q _ => ∃ (a : Addr) (ns : List Int), vs = [.ref a] ∧ SqL K H a (ns.map V.int) ∧ ns.length ≤ 63 ∧ ∀ (d c : Addr) H', H d = none → H c = none → Same H H' → DrawC H' d c → Q (.ref d) H'
def spTake : Sp := fun vs H Q _ => ∃ (d c : Addr) (m : Int), vs = [.ref d, .int m] ∧ DrawC H d c ∧ 0 < m ∧ m ≤ 4294967296 ∧ ∀ (r : Int) H', 0 ≤ r → r < m → DrawC H' d c → But d H H' → Q (.int r) H'
theorem w_take {H : Hp} {Q : VK} {E : XK} {d c : Addr} {m : Int} (hd : DrawC H d c) (h0 : 0 < m) (h1 : m ≤ 4294967296) (q : ∀ (r : Int) H', 0 ≤ r → r < m → DrawC H' d c → But d H H' → Q (.int r) H') : spTake [.ref d, .int m] H Q E := ⟨d, c, m, rfl, hd, h0, h1, q⟩
section
variable {P : Program} {w : World} {K : PySem.W.Frag} {mg : Str → Option Value} {base : Heap}
theorem ok_take (b_int : mg "int" = none) (b_abs : mg "abs" = none) (b_len : mg "len" = none) (Z : St1 K mg "_law_take" s_law_take ["draw", "many"]) : Cd P w K mg base 1 "_law_take" spTake := by
  refine Z.cd sc_law_take (fun vs H Q E h => by obtain ⟨d, c, m, rfl, _⟩ := h; rfl) (fun f cdv A outer s H vs Q E hr h => ?_)
  obtain ⟨d, c, m, rfl, ⟨cs, i, cur, seed, hd, hc, ncd, hi, hcur, hs0, hs1, hcs⟩, hm0, hm1, q⟩ := h
  refine ⟨_, (Evl.pss_cut (ps_if (pt_cmpR op_eq (pe_ix ix_list (pv 0) pe_int (fun _ _ => rfl)) pe_int (nomark _)) (pss_cons (ps_asg (pe_op op_add (pe_ix ix_list (pv 0) pe_int (fun _ _ => rfl)) pe_int) (pg_sub (pv 0) pe_int set_list))
      (Evl.pss_cut (ps_if (pt_cmpR op_lt (pe_ix ix_list (pv 0) pe_int (fun _ _ => rfl)) (pe_callB call_lenQ (by rfl) b_len PySem.boot_len (pa_cons (pe_ix ix_list (pv 0) pe_int (fun _ _ => rfl)) pa_nil)) (nomark _)) (pss_one (ps_asg (pe_ix ix_list (pe_ix ix_list (pv 0) pe_int (fun _ _ => rfl)) (pe_ix ix_list (pv 0) pe_int (fun _ _ => rfl)) (fun _ _ => rfl)) (pg_sub (pv 0) pe_int set_list))) pss_nil)
      (pss_one (ps_if (pt_cmpR op_eq (pe_ix ix_list (pv 0) pe_int (fun _ _ => rfl)) pe_int (nomark _)) (pss_cons (ps_asg (pe_op op_mod (pe_callTy call_intQ (by rfl) b_int (by decide +kernel) (pa_cons (pe_op op_add (pe_op op_mul (pe_ix ix_list (pv 0) pe_int (fun _ _ => rfl)) pe_int) pe_int) pa_nil)) pe_int) (pg_sub (pv 0) pe_int set_list))
      (pss_one (ps_asg (pe_ix ix_list (pv 0) pe_int (fun _ _ => rfl)) (pg_sub (pv 0) pe_int set_list)))) pss_nil)))) pss_nil)
      (pss_cons (ps_set (i := 2) sc_law_take.nd rfl (.inl rfl) (pe_op op_mod (pe_callTy call_intQ (by rfl) b_int (by decide +kernel) (pa_cons (pe_ix ix_list (pv 0) pe_int (fun _ _ => rfl)) pa_nil)) (pv 1)))
      (pss_cons (ps_asg (pe_op op_fdivW (pe_ix ix_list (pv 0) pe_int (fun _ _ => rfl)) (pv 1)) (pg_sub (pv 0) pe_int set_list))
      (pss_one (ps_ret (pv 2)))))), ?_⟩
  refine Evl.q_cut (M := fun σ' H' => σ' = [some (.ref d), some (.int m), none] ∧ But d H H' ∧ ∃ i' cur' seed', H' d = some (.lst [.ref c, .int i', .int cur', .int seed']) ∧ H' c = some (.lst (cs.map V.int)) ∧ -1 ≤ i' ∧ 0 ≤ cur' ∧ 0 ≤ seed' ∧ seed' < 2147483647) ?_ ?_
  · (with_reducible refine w_ifS ?_)
    (with_reducible refine w_test ?_)
    (with_reducible refine w_op ?_)
    (with_reducible refine w_op ?_)
    ((with_reducible refine' w_var ?hv ?_); (case hv => exact rfl))
    (with_reducible refine w_c ?_)
    ((with_reducible refine' w_ixL ?hh ?ha ?_); (case hh => assumption); (case ha => exact rfl))
    (with_reducible refine w_c ?_)
    (with_reducible refine w_eqI ?_)
    (with_reducible refine w_bl ?_)
    refine w_dec (fun e => ?_) (fun e => ?_)
    · (with_reducible refine w_seq ?_)
      (with_reducible refine w_asg ?_)
      (with_reducible refine w_op ?_)
      (with_reducible refine w_op ?_)
      ((with_reducible refine' w_var ?hv ?_); (case hv => exact rfl))
      (with_reducible refine w_c ?_)
      ((with_reducible refine' w_ixL ?hh ?ha ?_); (case hh => assumption); (case ha => exact rfl))
      (with_reducible refine w_c ?_)
      (with_reducible refine w_I0 ?_)
      (with_reducible refine w_sub ?_)
      ((with_reducible refine' w_var ?hv ?_); (case hv => exact rfl))
      (with_reducible refine w_c ?_)
      ((with_reducible refine' w_setL ?hh ?ha ?_); (case hh => assumption); (case ha => exact rfl))
      intro H1 hd1 bt1
      replace hd1 : H1 d = some (.lst [.ref c, .int (i + 1), .int cur, .int seed]) := hd1
      have hc1 : H1 c = some (.lst (cs.map V.int)) := bt1 c _ ncd hc
      skip
      refine Evl.q_cut (M := fun σ' H' => σ' = [some (.ref d), some (.int m), none] ∧ But d H H' ∧ ∃ cur', H' d = some (.lst [.ref c, .int (i + 1), .int cur', .int seed]) ∧ 0 ≤ cur') ?_ ?_
      · (with_reducible refine w_ifS ?_)
        (with_reducible refine w_test ?_)
        (with_reducible refine w_op ?_)
        (with_reducible refine w_op ?_)
        ((with_reducible refine' w_var ?hv ?_); (case hv => exact rfl))
        (with_reducible refine w_c ?_)
        ((with_reducible refine' w_ixL ?hh ?ha ?_); (case hh => assumption); (case ha => exact rfl))
        (with_reducible refine w_cb ?_)
        (with_reducible refine w_cons ?_)
        (with_reducible refine w_op ?_)
        ((with_reducible refine' w_var ?hv ?_); (case hv => exact rfl))
        (with_reducible refine w_c ?_)
        ((with_reducible refine' w_ixL ?hh ?ha ?_); (case hh => assumption); (case ha => exact rfl))
        (with_reducible refine w_nil ?_)
        ((with_reducible refine' w_lenL ?hh ?_); (case hh => assumption))
        (with_reducible refine w_I0 ?_)
        (with_reducible refine w_bl ?_)
        refine w_dec (fun e2 => ?_) (fun e2 => ?_)
        · (with_reducible refine w_asg ?_)
          (with_reducible refine w_op ?_)
          (with_reducible refine w_op ?_)
          ((with_reducible refine' w_var ?hv ?_); (case hv => exact rfl))
          (with_reducible refine w_c ?_)
          ((with_reducible refine' w_ixL ?hh ?ha ?_); (case hh => assumption); (case ha => exact rfl))
          (with_reducible refine w_op ?_)
          ((with_reducible refine' w_var ?hv ?_); (case hv => exact rfl))
          (with_reducible refine w_c ?_)
          ((with_reducible refine' w_ixL ?hh ?ha ?_); (case hh => assumption); (case ha => exact rfl))
          have l1 : (cs.map V.int).length = cs.length := List.length_map ..
          have hlt : (i + 1).toNat < cs.length := by omega
          refine w_ixL (v := .int cs[(i + 1).toNat]) hc1 (atI_of (by omega) ?_) ?_
          · rw [List.getElem?_map, List.getElem?_eq_getElem hlt]; rfl
          (with_reducible refine w_sub ?_)
          ((with_reducible refine' w_var ?hv ?_); (case hv => exact rfl))
          (with_reducible refine w_c ?_)
          ((with_reducible refine' w_setL ?hh ?ha ?_); (case hh => assumption); (case ha => exact rfl))
          intro H2 hd2 bt2
          skip
          exact ⟨rfl, bt1.trans bt2, _, hd2, hcs _ (List.getElem_mem hlt)⟩
        · (with_reducible refine w_next ?_)
          exact ⟨rfl, bt1, cur, hd1, hcur⟩
      · rintro σ' H2 ⟨rfl, bt2, cur2, hd2, hcur2⟩
        (with_reducible refine w_ifS ?_)
        (with_reducible refine w_test ?_)
        (with_reducible refine w_op ?_)
        (with_reducible refine w_op ?_)
        ((with_reducible refine' w_var ?hv ?_); (case hv => exact rfl))
        (with_reducible refine w_c ?_)
        ((with_reducible refine' w_ixL ?hh ?ha ?_); (case hh => assumption); (case ha => exact rfl))
        (with_reducible refine w_c ?_)
        (with_reducible refine w_eqI ?_)
        (with_reducible refine w_bl ?_)
        have hc2 : H2 c = some (.lst (cs.map V.int)) := bt2 c _ ncd hc
        refine w_dec (fun e2 => ?_) (fun e2 => ?_)
        · (with_reducible refine w_seq ?_)
          (with_reducible refine w_asg ?_)
          (with_reducible refine w_op ?_)
          (with_reducible refine w_cb ?_)
          (with_reducible refine w_cons ?_)
          (with_reducible refine w_op ?_)
          (with_reducible refine w_op ?_)
          (with_reducible refine w_op ?_)
          ((with_reducible refine' w_var ?hv ?_); (case hv => exact rfl))
          (with_reducible refine w_c ?_)
          ((with_reducible refine' w_ixL ?hh ?ha ?_); (case hh => assumption); (case ha => exact rfl))
          (with_reducible refine w_c ?_)
          ((with_reducible refine w_I ?hc ?_); (case hc => walk_at "side"))
          (with_reducible refine w_c ?_)
          (with_reducible refine w_I0 ?_)
          (with_reducible refine w_nil ?_)
          (with_reducible refine w_int1 ?_)
          (with_reducible refine w_c ?_)
          ((with_reducible refine w_I ?hc ?_); (case hc => walk_at "side"))
          (with_reducible refine w_sub ?_)
          ((with_reducible refine' w_var ?hv ?_); (case hv => exact rfl))
          (with_reducible refine w_c ?_)
          ((with_reducible refine' w_setL ?hh ?ha ?_); (case hh => assumption); (case ha => exact rfl))
          intro H3 hd3 bt3
          replace hd3 : H3 d = some (.lst [.ref c, .int (i + 1), .int cur2, .int ((seed * 48271 + 11) % 2147483647)]) := hd3
          (with_reducible refine w_asg ?_)
          (with_reducible refine w_op ?_)
          ((with_reducible refine' w_var ?hv ?_); (case hv => exact rfl))
          (with_reducible refine w_c ?_)
          ((with_reducible refine' w_ixL ?hh ?ha ?_); (case hh => assumption); (case ha => exact rfl))
          (with_reducible refine w_sub ?_)
          ((with_reducible refine' w_var ?hv ?_); (case hv => exact rfl))
          (with_reducible refine w_c ?_)
          ((with_reducible refine' w_setL ?hh ?ha ?_); (case hh => assumption); (case ha => exact rfl))
          intro H4 hd4 bt4
          replace hd4 : H4 d = some (.lst [.ref c, .int (i + 1), .int ((seed * 48271 + 11) % 2147483647), .int ((seed * 48271 + 11) % 2147483647)]) := hd4
          have g1 : 0 ≤ (seed * 48271 + 11) % 2147483647 := Int.emod_nonneg _ (by omega)
          have g2 : (seed * 48271 + 11) % 2147483647 < 2147483647 := Int.emod_lt_of_pos _ (by omega)
          exact ⟨rfl, bt2.trans (bt3.trans bt4), _, _, _, hd4, bt4 c _ ncd (bt3 c _ ncd hc2), by omega, g1, g1, g2⟩
        · (with_reducible refine w_next ?_)
          exact ⟨rfl, bt2, _, _, _, hd2, hc2, by omega, hcur2, hs0, hs1⟩
    · (with_reducible refine w_next ?_)
      exact ⟨rfl, But.refl _ _, i, cur, seed, hd, hc, hi, hcur, hs0, hs1⟩
  · rintro σ' H' ⟨rfl, bt, i', cur', seed', hd', hc', hi', hcur', hs0', hs1'⟩
    (with_reducible refine w_seq ?_)
    (with_reducible refine w_asg ?_)
    (with_reducible refine w_op ?_)
    (with_reducible refine w_cb ?_)
    (with_reducible refine w_cons ?_)
    (with_reducible refine w_op ?_)
    ((with_reducible refine' w_var ?hv ?_); (case hv => exact rfl))
    (with_reducible refine w_c ?_)
    ((with_reducible refine' w_ixL ?hh ?ha ?_); (case hh => assumption); (case ha => exact rfl))
    (with_reducible refine w_nil ?_)
    (with_reducible refine w_int1 ?_)
    ((with_reducible refine' w_var ?hv ?_); (case hv => exact rfl))
    ((with_reducible refine w_I ?hc ?_); (case hc => walk_at "side"))
    (with_reducible refine w_name ?_)
    (with_reducible refine w_seq ?_)
    (with_reducible refine w_asg ?_)
    (with_reducible refine w_op ?_)
    (with_reducible refine w_op ?_)
    ((with_reducible refine' w_var ?hv ?_); (case hv => exact rfl))
    (with_reducible refine w_c ?_)
    ((with_reducible refine' w_ixL ?hh ?ha ?_); (case hh => assumption); (case ha => exact rfl))
    ((with_reducible refine' w_var ?hv ?_); (case hv => exact rfl))
    ((with_reducible refine w_I ?hc ?_); (case hc => walk_at "side"))
    (with_reducible refine w_sub ?_)
    ((with_reducible refine' w_var ?hv ?_); (case hv => exact rfl))
    (with_reducible refine w_c ?_)
    ((with_reducible refine' w_setL ?hh ?ha ?_); (case hh => assumption); (case ha => exact rfl))
    intro H1 hd1 bt1
    replace hd1 : H1 d = some (.lst [.ref c, .int i', .int (cur' / m), .int seed']) := hd1
    (with_reducible refine w_ret ?_)
    ((with_reducible refine' w_var ?hv ?_); (case hv => exact rfl))
    refine q (cur' % m) H1 (Int.emod_nonneg _ (by omega)) (Int.emod_lt_of_pos _ hm0) ⟨cs, i', cur' / m, seed', hd1, bt1 c _ ncd hc', ncd, hi', Int.ediv_nonneg hcur' (by omega), hs0', hs1', hcs⟩ (bt.trans bt1)
theorem ok_draw (b_int : mg "int" = none) (b_abs : mg "abs" = none) (b_len : mg "len" = none) (Z : St1 K mg "_law_draw" s_law_draw ["script"]) : Cd P w K mg base 1 "_law_draw" (spDraw K) := by
  refine Z.cd sc_law_draw (fun vs H Q E h => by obtain ⟨d, m, rfl, _⟩ := h; rfl) (fun f cdv A outer s H vs Q E hr h => ?_)
  obtain ⟨a, ns, rfl, hS, hlen, q⟩ := h
  refine ⟨_, (pss_cons (ps_set (i := 1) sc_law_draw.nd rfl (.inl rfl) pe_int)
      (pss_cons (ps_for PassesOwn.never rfl (pi_list (pv 0)) (pg_name (i := 2) sc_law_draw.nd rfl (.inl rfl))
      (pss_one (ps_set (i := 1) sc_law_draw.nd rfl (.inl rfl) (pe_op op_mod (pe_callTy call_intQ (by rfl) b_int (by decide +kernel) (pa_cons (pe_op op_add (pe_op op_add (pe_op op_mul (pv 1) pe_int) (pe_op op_mod (pe_callB call_absQ (by rfl) b_abs (by decide +kernel) (pa_cons (pe_callTy call_intQ (by rfl) b_int (by decide +kernel) (pa_cons (pv 2) pa_nil)) pa_nil)) pe_int)) pe_int) pa_nil)) pe_int))))
      (pss_one (ps_ret (pe_lst (pa_cons (pe_lc (own := [("cell", 2)]) rfl sc_law_draw.nd (pi_list (pv 0)) (blkOk_by (own := [("cell", 2)]) (N := ["script", "seed", "cell"]) (sc := (defScope s_law_draw)) (by decide +kernel)) (fun _ _ _ _ _ => (pg_name (i := 2) sc_law_draw.nd rfl (.inl rfl))) (fun _ _ _ _ _ => pts_nil) (fun _ _ _ _ _ => (pe_callB call_absQ (by rfl) b_abs (by decide +kernel) (pa_cons (pe_callTy call_intQ (by rfl) b_int (by decide +kernel) (pa_cons (pv 2) pa_nil)) pa_nil)))) (pa_cons (pe_un un_neg pe_int) (pa_cons pe_int (pa_cons (pv 1) pa_nil))))))))), ?_⟩
  (with_reducible refine w_seq ?_)
  (with_reducible refine w_asg ?_)
  (with_reducible refine w_c ?_)
  (with_reducible refine w_name ?_)
  (with_reducible refine w_seq ?_)
  (with_reducible refine w_for ?_)
  (with_reducible refine w_iL ?_)
  ((with_reducible refine' w_var ?hv ?_); (case hv => exact rfl))
  refine w_forL (ns.map V.int) (fun i σ' H' => H' = H ∧ ∃ (y : Option V) (seed : Int), σ' = [some (.ref a), some (.int seed), y] ∧ 0 ≤ seed ∧ seed < 2147483647) hS ⟨rfl, none, 7, rfl, by decide, by decide⟩ (fun i σ' H' _ ⟨e, _⟩ => by rw [e]; exact hS) ?_ ?_
  · rintro i x σ' H' hx ⟨rfl, y, seed, rfl, h0, h1⟩
    obtain ⟨n, _, rfl⟩ := map_get hx
    (with_reducible refine w_name ?_)
    (with_reducible refine w_asg ?_)
    (with_reducible refine w_op ?_)
    (with_reducible refine w_cb ?_)
    (with_reducible refine w_cons ?_)
    (with_reducible refine w_op ?_)
    (with_reducible refine w_op ?_)
    (with_reducible refine w_op ?_)
    ((with_reducible refine' w_var ?hv ?_); (case hv => exact rfl))
    (with_reducible refine w_c ?_)
    ((with_reducible refine w_I ?hc ?_); (case hc => walk_at "side"))
    (with_reducible refine w_op ?_)
    (with_reducible refine w_cb ?_)
    (with_reducible refine w_cons ?_)
    (with_reducible refine w_cb ?_)
    (with_reducible refine w_cons ?_)
    ((with_reducible refine' w_var ?hv ?_); (case hv => exact rfl))
    (with_reducible refine w_nil ?_)
    (with_reducible refine w_int1 ?_)
    (with_reducible refine w_nil ?_)
    (with_reducible refine w_abs ?_)
    (with_reducible refine w_c ?_)
    ((with_reducible refine w_I ?hc ?_); (case hc => walk_at "side"))
    (with_reducible refine w_I0 ?_)
    (with_reducible refine w_c ?_)
    (with_reducible refine w_I0 ?_)
    (with_reducible refine w_nil ?_)
    (with_reducible refine w_int1 ?_)
    (with_reducible refine w_c ?_)
    ((with_reducible refine w_I ?hc ?_); (case hc => walk_at "side"))
    (with_reducible refine w_name ?_)
    refine ⟨rfl, _, _, rfl, Int.emod_nonneg _ (by omega), Int.emod_lt_of_pos _ (by omega)⟩
  · rintro σ' H' ⟨rfl, y, seed, rfl, h0, h1⟩
    (with_reducible refine w_ret ?_)
    (with_reducible refine w_lst ?_)
    (with_reducible refine w_cons ?_)
    (with_reducible refine w_lc ?_)
    (with_reducible refine w_iL ?_)
    ((with_reducible refine' w_var ?hv ?_); (case hv => exact rfl))
    refine w_lcL (ns.map V.int) (fun c i H2 => H' c = none ∧ Same H' H2 ∧ H2 c = some (.lst (((ns.take i).map mabs).map V.int))) hS (fun c nc => ⟨nc, Same.new nc, upd_same⟩) (fun c i H2 _ ⟨_, e, _⟩ => e.seq hS) ?_ ?_
    · rintro c i x H2 hx ⟨nc, sm, hc⟩
      obtain ⟨n, hn, rfl⟩ := map_get hx
      (with_reducible refine w_name ?_)
      refine ⟨rfl, ?_⟩
      (with_reducible refine w_yes ?_)
      (with_reducible refine w_itT ?_)
      (with_reducible refine w_cb ?_)
      (with_reducible refine w_cons ?_)
      (with_reducible refine w_cb ?_)
      (with_reducible refine w_cons ?_)
      ((with_reducible refine' w_var ?hv ?_); (case hv => exact rfl))
      (with_reducible refine w_nil ?_)
      (with_reducible refine w_int1 ?_)
      (with_reducible refine w_nil ?_)
      (with_reducible refine w_abs ?_)
      have hi : i < ns.length := (List.getElem?_eq_some_iff.mp hn).1
      refine ⟨_, hc, by simp only [List.length_map, List.length_take]; exact small1000 (by omega), nc, ?_, ?_⟩
      · exact fun b o e => by rw [upd_ne (ne_of_none e nc)]; exact sm b o e
      · rw [upd_same, take_more hn, List.map_append, List.map_append]; rfl
    · rintro c H2 nc ⟨_, sm, hc⟩
      (with_reducible refine w_cons ?_)
      (with_reducible refine w_un ?_)
      (with_reducible refine w_c ?_)
      (with_reducible refine w_U ?_)
      (with_reducible refine w_cons ?_)
      (with_reducible refine w_c ?_)
      (with_reducible refine w_cons ?_)
      ((with_reducible refine' w_var ?hv ?_); (case hv => exact rfl))
      (with_reducible refine w_nil ?_)
      refine w_kLst (by show 4 ≤ sizeLine; decide) fun d H3 nd sm3 hd => ?_
      have hdc : c ≠ d := ne_of_none hc nd
      rw [List.length_map, List.take_length] at hc
      refine q d c _ (sm.free nd) nc (sm.trans sm3) ⟨ns.map mabs, -1, 0, seed, hd, sm3 _ _ hc, hdc, by decide, by decide, h0, h1, fun x hx => ?_⟩
      obtain ⟨n, _, rfl⟩ := List.mem_map.mp hx
      exact mabs_nn n
end
end K08

namespace K08
def topFile : PySem.Str := "/claim/cut.py"
def cks0 : List (PySem.W.Frag → Bool) := [fun K => gloZ "is_number" K,
  fun K => gloZ "is_word" K,
  fun K => gloZ "is_byte" K,
  fun K => gloZ "is_row" K,
  fun K => gloZ "is_name" K,
  fun K => gloZ "is_operand" K,
  fun K => gloZ "encode" K,
  fun K => gloZ "decode" K,
  fun K => gloZ "_immediate" K,
  fun K => gloZ "_with_sign" K,
  fun K => gloZ "image_faults" K,
  fun K => gloZ "_is_segment" K,
  fun K => gloZ "_spans" K,
  fun K => gloZ "_length" K,
  fun K => gloZ "_out_of_order" K,
  fun K => gloZ "_has_bad_size" K,
  fun K => gloZ "_are_symbols" K,
  fun K => gloZ "bytes_of_words" K,
  fun K => gloZ "link" K,
  fun K => gloZ "_addresses" K,
  fun K => gloZ "_exports" K,
  fun K => gloZ "_met" K,
  fun K => gloZ "_has_form" K,
  fun K => gloZ "_changed" K,
  fun K => gloZ "_law_draw" K,
  fun K => gloZ "_law_take" K,
  fun K => gloZ "_law_ops" K,
  fun K => gloZ "_law_word" K,
  fun K => gloZ "_law_bytes" K,
  fun K => gloZ "_law_part" K]
def cks1 : List (PySem.W.Frag → Bool) := [fun K => gloZ "_law_places" K,
  fun K => gloZ "_law_filled" K,
  fun K => gloZ "_law_due" K,
  fun K => gloZ "law" K,
  fun K => (He.Fa.int "WORDS_IN_ALL" 4294967296).ok K,
  fun K => (He.Fa.int "MASK" 4294967295).ok K,
  fun K => (He.Fa.str "LETTERS" "abcdefghijklmnopqrstuvwxyz").ok K,
  fun K => (He.Fa.str "NAME_CHARACTERS" "abcdefghijklmnopqrstuvwxyz0123456789_").ok K,
  fun K => (He.Fa.int "LOW_14" 16383).ok K,
  fun K => (He.Fa.int "LOW_18" 262143).ok K,
  fun K => (He.Fa.int "MOST_SEGMENTS" 16).ok K,
  fun K => (He.Fa.int "MOST_BYTES" 65536).ok K,
  fun K => (He.Fa.int "FIRST_ADDRESS" 4096).ok K,
  fun K => (He.Fa.int "BETWEEN_PARTS" 16).ok K,
  fun K => (He.Fa.int "HALF_OF_LOW" 8192).ok K,
  fun K => (He.Fa.free "abs").ok K,
  fun K => (He.Fa.free "all").ok K,
  fun K => (He.Fa.free "any").ok K,
  fun K => (He.Fa.free "bool").ok K,
  fun K => (He.Fa.free "enumerate").ok K,
  fun K => (He.Fa.free "int").ok K,
  fun K => (He.Fa.free "isinstance").ok K,
  fun K => (He.Fa.free "len").ok K,
  fun K => (He.Fa.free "list").ok K,
  fun K => (He.Fa.free "range").ok K,
  fun K => (He.Fa.free "repr").ok K,
  fun K => (He.Fa.free "sorted").ok K,
  fun K => (He.Fa.free "str").ok K,
  fun K => (He.Fa.free "sum").ok K,
  fun K => (He.Fa.free "tuple").ok K]
def cks2 : List (PySem.W.Frag → Bool) := [fun K => (He.Fa.free "zip").ok K,
  fun K => exZ topFile K,
  fun K => tupZ K (He.ga K "OPS") (([.str "add", .str "sub", .str "mul", .str "and", .str "or", .str "xor", .str "shl", .str "shr", .str "sar", .str "slt", .str "sltu", .str "divu"] : List V) ++ ([.str "remu", .str "addi", .str "andi", .str "ori", .str "xori", .str "shli", .str "shri", .str "sari", .str "slti", .str "lui", .str "lw", .str "lb"] : List V) ++ ([.str "lbu", .str "sw", .str "sb", .str "beq", .str "bne", .str "blt", .str "bge", .str "bltu", .str "bgeu", .str "jal", .str "jalr", .str "get"] : List V) ++ ([.str "put", .str "exit"] : List V)),
  fun K => tupZ K (nsA K (He.ga K "BOUNDS") "d") [.int (0), .int (15)],
  fun K => tupZ K (nsA K (He.ga K "BOUNDS") "s") [.int (0), .int (15)],
  fun K => tupZ K (nsA K (He.ga K "BOUNDS") "i") [.int (-8192), .int (8191)],
  fun K => tupZ K (nsA K (He.ga K "BOUNDS") "j") [.int (-131072), .int (131071)],
  fun K => tupZ K (nsA K (He.ga K "BOUNDS") "u") [.int (0), .int (262143)],
  fun K => tupZ K (nsA K (He.ga K "OPS_OF_FORMS") "jal") [.str "jal"],
  fun K => tupZ K (nsA K (He.ga K "OPS_OF_FORMS") "high") [.str "lui"],
  fun K => tupZ K (nsA K (He.ga K "OPS_OF_FORMS") "low") [.str "addi", .str "lw", .str "lb", .str "lbu", .str "sw", .str "sb"],
  fun K => gloZ "OPS" K,
  fun K => gloZ "FORMS" K,
  fun K => strZ K (He.ga K "FORMS") "add" "dss",
  fun K => strZ K (He.ga K "FORMS") "sub" "dss",
  fun K => strZ K (He.ga K "FORMS") "mul" "dss",
  fun K => strZ K (He.ga K "FORMS") "and" "dss",
  fun K => strZ K (He.ga K "FORMS") "or" "dss",
  fun K => strZ K (He.ga K "FORMS") "xor" "dss",
  fun K => strZ K (He.ga K "FORMS") "shl" "dss",
  fun K => strZ K (He.ga K "FORMS") "shr" "dss",
  fun K => strZ K (He.ga K "FORMS") "sar" "dss",
  fun K => strZ K (He.ga K "FORMS") "slt" "dss",
  fun K => strZ K (He.ga K "FORMS") "sltu" "dss",
  fun K => strZ K (He.ga K "FORMS") "divu" "dss",
  fun K => strZ K (He.ga K "FORMS") "remu" "dss",
  fun K => strZ K (He.ga K "FORMS") "addi" "dsi",
  fun K => strZ K (He.ga K "FORMS") "andi" "dsi",
  fun K => strZ K (He.ga K "FORMS") "ori" "dsi",
  fun K => strZ K (He.ga K "FORMS") "xori" "dsi"]
def cks3 : List (PySem.W.Frag → Bool) := [fun K => strZ K (He.ga K "FORMS") "shli" "dsi",
  fun K => strZ K (He.ga K "FORMS") "shri" "dsi",
  fun K => strZ K (He.ga K "FORMS") "sari" "dsi",
  fun K => strZ K (He.ga K "FORMS") "slti" "dsi",
  fun K => strZ K (He.ga K "FORMS") "lui" "du",
  fun K => strZ K (He.ga K "FORMS") "lw" "dsi",
  fun K => strZ K (He.ga K "FORMS") "lb" "dsi",
  fun K => strZ K (He.ga K "FORMS") "lbu" "dsi",
  fun K => strZ K (He.ga K "FORMS") "sw" "ssi",
  fun K => strZ K (He.ga K "FORMS") "sb" "ssi",
  fun K => strZ K (He.ga K "FORMS") "beq" "ssi",
  fun K => strZ K (He.ga K "FORMS") "bne" "ssi",
  fun K => strZ K (He.ga K "FORMS") "blt" "ssi",
  fun K => strZ K (He.ga K "FORMS") "bge" "ssi",
  fun K => strZ K (He.ga K "FORMS") "bltu" "ssi",
  fun K => strZ K (He.ga K "FORMS") "bgeu" "ssi",
  fun K => strZ K (He.ga K "FORMS") "jal" "dj",
  fun K => strZ K (He.ga K "FORMS") "jalr" "dsi",
  fun K => strZ K (He.ga K "FORMS") "get" "d",
  fun K => strZ K (He.ga K "FORMS") "put" "s",
  fun K => strZ K (He.ga K "FORMS") "exit" "s",
  fun K => gloZ "BOUNDS" K,
  fun K => nsZ K (He.ga K "BOUNDS") "d" (some (.ref (nsA K (He.ga K "BOUNDS") "d"))),
  fun K => nsZ K (He.ga K "BOUNDS") "s" (some (.ref (nsA K (He.ga K "BOUNDS") "s"))),
  fun K => nsZ K (He.ga K "BOUNDS") "i" (some (.ref (nsA K (He.ga K "BOUNDS") "i"))),
  fun K => nsZ K (He.ga K "BOUNDS") "j" (some (.ref (nsA K (He.ga K "BOUNDS") "j"))),
  fun K => nsZ K (He.ga K "BOUNDS") "u" (some (.ref (nsA K (He.ga K "BOUNDS") "u"))),
  fun K => gloZ "OPS_OF_FORMS" K,
  fun K => nsZ K (He.ga K "OPS_OF_FORMS") "jal" (some (.ref (nsA K (He.ga K "OPS_OF_FORMS") "jal"))),
  fun K => nsZ K (He.ga K "OPS_OF_FORMS") "high" (some (.ref (nsA K (He.ga K "OPS_OF_FORMS") "high")))]
def cks4 : List (PySem.W.Frag → Bool) := [fun K => nsZ K (He.ga K "OPS_OF_FORMS") "low" (some (.ref (nsA K (He.ga K "OPS_OF_FORMS") "low")))]
abbrev cks : List (PySem.W.Frag → Bool) := cks0 ++ cks1 ++ cks2 ++ cks3 ++ cks4
def fns0 : List Fx := [⟨fun K => He.ga K "is_number", "is_number", "is_number", s_is_number⟩,
  ⟨fun K => He.ga K "is_word", "is_word", "is_word", s_is_word⟩,
  ⟨fun K => He.ga K "is_byte", "is_byte", "is_byte", s_is_byte⟩,
  ⟨fun K => He.ga K "is_row", "is_row", "is_row", s_is_row⟩,
  ⟨fun K => He.ga K "is_name", "is_name", "is_name", s_is_name⟩,
  ⟨fun K => He.ga K "is_operand", "is_operand", "is_operand", s_is_operand⟩,
  ⟨fun K => He.ga K "encode", "encode", "encode", s_encode⟩,
  ⟨fun K => He.ga K "decode", "decode", "decode", s_decode⟩,
  ⟨fun K => He.ga K "_immediate", "_immediate", "_immediate", s_immediate⟩,
  ⟨fun K => He.ga K "_with_sign", "_with_sign", "_with_sign", s_with_sign⟩,
  ⟨fun K => He.ga K "image_faults", "image_faults", "image_faults", s_image_faults⟩,
  ⟨fun K => He.ga K "_is_segment", "_is_segment", "_is_segment", s_is_segment⟩,
  ⟨fun K => He.ga K "_spans", "_spans", "_spans", s_spans⟩,
  ⟨fun K => He.ga K "_length", "_length", "_length", s_length⟩,
  ⟨fun K => He.ga K "_out_of_order", "_out_of_order", "_out_of_order", s_out_of_order⟩,
  ⟨fun K => He.ga K "_has_bad_size", "_has_bad_size", "_has_bad_size", s_has_bad_size⟩,
  ⟨fun K => He.ga K "_are_symbols", "_are_symbols", "_are_symbols", s_are_symbols⟩,
  ⟨fun K => He.ga K "bytes_of_words", "bytes_of_words", "bytes_of_words", s_bytes_of_words⟩,
  ⟨fun K => He.ga K "link", "link", "link", s_link⟩,
  ⟨fun K => He.ga K "_addresses", "_addresses", "_addresses", s_addresses⟩,
  ⟨fun K => He.ga K "_exports", "_exports", "_exports", s_exports⟩,
  ⟨fun K => He.ga K "_met", "_met", "_met", s_met⟩,
  ⟨fun K => He.ga K "_has_form", "_has_form", "_has_form", s_has_form⟩,
  ⟨fun K => He.ga K "_changed", "_changed", "_changed", s_changed⟩,
  ⟨fun K => He.ga K "_law_draw", "_law_draw", "_law_draw", s_law_draw⟩,
  ⟨fun K => He.ga K "_law_take", "_law_take", "_law_take", s_law_take⟩,
  ⟨fun K => He.ga K "_law_ops", "_law_ops", "_law_ops", s_law_ops⟩,
  ⟨fun K => He.ga K "_law_word", "_law_word", "_law_word", s_law_word⟩,
  ⟨fun K => He.ga K "_law_bytes", "_law_bytes", "_law_bytes", s_law_bytes⟩,
  ⟨fun K => He.ga K "_law_part", "_law_part", "_law_part", s_law_part⟩]
def fns1 : List Fx := [⟨fun K => He.ga K "_law_places", "_law_places", "_law_places", s_law_places⟩,
  ⟨fun K => He.ga K "_law_filled", "_law_filled", "_law_filled", s_law_filled⟩,
  ⟨fun K => He.ga K "_law_due", "_law_due", "_law_due", s_law_due⟩,
  ⟨fun K => He.ga K "law", "law", "law", s_law⟩]
abbrev fns : List Fx := fns0 ++ fns1
def tabs0 : List He.Tab := [(fun K => (He.ga K "FORMS"), (["add", "sub", "mul", "and", "or", "xor", "shl", "shr", "sar", "slt", "sltu", "divu"] : List Str) ++ (["remu", "addi", "andi", "ori", "xori", "shli", "shri", "sari", "slti", "lui", "lw", "lb"] : List Str) ++ (["lbu", "sw", "sb", "beq", "bne", "blt", "bge", "bltu", "bgeu", "jal", "jalr", "get"] : List Str) ++ (["put", "exit"] : List Str)),
  (fun K => (He.ga K "BOUNDS"), (["d", "s", "i", "j", "u"] : List Str)),
  (fun K => (He.ga K "OPS_OF_FORMS"), (["jal", "high", "low"] : List Str))]
abbrev tabs : List He.Tab := tabs0
def topN0 : List PySem.Str := ["WORDS_IN_ALL",
  "MASK",
  "LETTERS",
  "NAME_CHARACTERS",
  "is_number",
  "is_word",
  "is_byte",
  "is_row",
  "is_name",
  "OPS",
  "FORMS",
  "LOW_14",
  "LOW_18",
  "BOUNDS",
  "is_operand"]
def topN1 : List PySem.Str := ["encode",
  "decode",
  "_immediate",
  "_with_sign",
  "RestitchError",
  "LinkError",
  "MOST_SEGMENTS",
  "MOST_BYTES",
  "image_faults",
  "_is_segment",
  "_spans",
  "_length",
  "_out_of_order",
  "_has_bad_size",
  "_are_symbols"]
def topN2 : List PySem.Str := ["bytes_of_words",
  "FIRST_ADDRESS",
  "BETWEEN_PARTS",
  "HALF_OF_LOW",
  "OPS_OF_FORMS",
  "link",
  "_addresses",
  "_exports",
  "_met",
  "_has_form",
  "_changed",
  "_law_draw",
  "_law_take",
  "_law_ops",
  "_law_word"]
def topN3 : List PySem.Str := ["_law_bytes",
  "_law_label",
  "_law_here",
  "_law_put_word",
  "_law_some",
  "_law_register",
  "_law_set",
  "_law_alu",
  "_law_memory",
  "_law_if",
  "_law_loop",
  "_law_call",
  "_law_switch",
  "_law_rows",
  "_law_odd"]
def topN4 : List PySem.Str := ["_law_code_words",
  "_law_values",
  "_law_image",
  "_law_part",
  "_law_places",
  "_law_filled",
  "_law_due"]
abbrev topN : List PySem.Str := topN0 ++ topN1 ++ topN2 ++ topN3 ++ topN4
abbrev RwZ : PySem.W.OpenRow := PySem.W.OpenLaw.row PySem.Challenge.rw_restitch_k08_linked_parts
abbrev hk : PySem.W.Hook := hookX 5 cks fns tabs
def ob (s : PySem.W.SharedT) : AlZ × FnE := obsX 5 cks fns tabs (HandSHeadRun.getT s)
theorem ob_eq (s : PySem.W.SharedT) : ob s = hk.obs s.abs := obsX_eq (HandSHeadRun.getT_eq s)
set_option maxHeartbeats 0 in
theorem rf1 (w : World) (os : OsState) : lookEnd RwZ 12000 (w.withFollow "special-get-raises" false) os (fun s => (lookZ RwZ (w.withFollow "special-get-raises" false) s, HandSHeadRun.seenQ (PySem.W.view RwZ.prog [74]) topN (PySem.importedModules RwZ.prog.main.body) (fun s => PySem.W.xlAt (PySem.W.view RwZ.prog [74]) [] s && PySem.W.recOk RwZ.toRowW.records s) s.abs)) (true, PySem.W.openGood (PySem.W.view RwZ.prog [74]) topN) := by
  unfold lookEnd
  kernel_rfl
set_option maxHeartbeats 0 in
theorem rf2 (w : World) (os : OsState) : lookEnd RwZ 12000 (w.withFollow "special-get-raises" false) os (fun s => cks.all fun f => f (KX 5 s)) true := by
  unfold lookEnd
  kernel_rfl
set_option maxHeartbeats 0 in
theorem rf4 (w : World) (os : OsState) : lookEnd RwZ 12000 (w.withFollow "special-get-raises" false) os (fun s => feObs (KX 5 s)) feVal := by
  unfold lookEnd
  kernel_rfl
set_option maxHeartbeats 0 in
theorem rf3 (w : World) (os : OsState) : lookEnd RwZ 12000 (w.withFollow "special-get-raises" false) os (fun s => (fns.all (fun d => d.ok (KX 5 s)), fns.map (fxObs (KX 5 s)), tabs.map fun t => He.dicW (KX 5 s) (t.1 (KX 5 s)))) (true, fns.map Fx.val, tabs.map fun t => some (He.keysIn (World.params (w.withFollow "special-get-raises" false)) t.2)) := by
  unfold lookEnd
  kernel_rfl
set_option maxHeartbeats 0 in
theorem rt1 (w : World) (os : OsState) : lookEnd RwZ 12000 (w.withFollow "special-get-raises" true) os (fun s => (lookZ RwZ (w.withFollow "special-get-raises" true) s, HandSHeadRun.seenQ (PySem.W.view RwZ.prog [74]) topN (PySem.importedModules RwZ.prog.main.body) (fun s => PySem.W.xlAt (PySem.W.view RwZ.prog [74]) [] s && PySem.W.recOk RwZ.toRowW.records s) s.abs)) (true, PySem.W.openGood (PySem.W.view RwZ.prog [74]) topN) := by
  unfold lookEnd
  kernel_rfl
set_option maxHeartbeats 0 in
theorem rt2 (w : World) (os : OsState) : lookEnd RwZ 12000 (w.withFollow "special-get-raises" true) os (fun s => cks.all fun f => f (KX 5 s)) true := by
  unfold lookEnd
  kernel_rfl
set_option maxHeartbeats 0 in
theorem rt4 (w : World) (os : OsState) : lookEnd RwZ 12000 (w.withFollow "special-get-raises" true) os (fun s => feObs (KX 5 s)) feVal := by
  unfold lookEnd
  kernel_rfl
set_option maxHeartbeats 0 in
theorem rt3 (w : World) (os : OsState) : lookEnd RwZ 12000 (w.withFollow "special-get-raises" true) os (fun s => (fns.all (fun d => d.ok (KX 5 s)), fns.map (fxObs (KX 5 s)), tabs.map fun t => He.dicW (KX 5 s) (t.1 (KX 5 s)))) (true, fns.map Fx.val, tabs.map fun t => some (He.keysIn (World.params (w.withFollow "special-get-raises" true)) t.2)) := by
  unfold lookEnd
  kernel_rfl
theorem run (w : World) : HandSHeadRun.RunEq RwZ (PySem.W.view RwZ.prog [74]) hk ob 12000 topN w := PySem.W.byRow2 "special-get-raises" (P := fun w => HandSHeadRun.RunEq RwZ (PySem.W.view RwZ.prog [74]) hk ob 12000 topN w) (fun w => runX (rf1 w) (rf2 w) (rf3 w) (rf4 w)) (fun w => runX (rt1 w) (rt2 w) (rt3 w) (rt4 w)) w
end K08


namespace K08
def opsT : List (Str × Str) := [(("add" : Str), ("dss" : Str)), (("sub" : Str), ("dss" : Str)), (("mul" : Str), ("dss" : Str)), (("and" : Str), ("dss" : Str)), (("or" : Str), ("dss" : Str)), (("xor" : Str), ("dss" : Str)), (("shl" : Str), ("dss" : Str)), (("shr" : Str), ("dss" : Str)), (("sar" : Str), ("dss" : Str)), (("slt" : Str), ("dss" : Str)), (("sltu" : Str), ("dss" : Str)), (("divu" : Str), ("dss" : Str)), (("remu" : Str), ("dss" : Str)),
  (("addi" : Str), ("dsi" : Str)), (("andi" : Str), ("dsi" : Str)), (("ori" : Str), ("dsi" : Str)), (("xori" : Str), ("dsi" : Str)), (("shli" : Str), ("dsi" : Str)), (("shri" : Str), ("dsi" : Str)), (("sari" : Str), ("dsi" : Str)), (("slti" : Str), ("dsi" : Str)), (("lui" : Str), ("du" : Str)), (("lw" : Str), ("dsi" : Str)), (("lb" : Str), ("dsi" : Str)), (("lbu" : Str), ("dsi" : Str)), (("sw" : Str), ("ssi" : Str)), (("sb" : Str), ("ssi" : Str)),
  (("beq" : Str), ("ssi" : Str)), (("bne" : Str), ("ssi" : Str)), (("blt" : Str), ("ssi" : Str)), (("bge" : Str), ("ssi" : Str)), (("bltu" : Str), ("ssi" : Str)), (("bgeu" : Str), ("ssi" : Str)), (("jal" : Str), ("dj" : Str)), (("jalr" : Str), ("dsi" : Str)), (("get" : Str), ("d" : Str)), (("put" : Str), ("s" : Str)), (("exit" : Str), ("s" : Str))]
def R16 (x : Int) : Prop := 0 ≤ x ∧ x < 16
inductive Fits : Str → List Int → Prop
  | dss {a b c : Int} (ha : R16 a) (hb : R16 b) (hc : R16 c) : Fits "dss" [a, b, c]
  | dsi {a b c : Int} (ha : R16 a) (hb : R16 b) (hc : -8192 ≤ c ∧ c ≤ 8191) : Fits "dsi" [a, b, c]
  | ssi {a b c : Int} (ha : R16 a) (hb : R16 b) (hc : -8192 ≤ c ∧ c ≤ 8191) : Fits "ssi" [a, b, c]
  | du {a c : Int} (ha : R16 a) (hc : 0 ≤ c ∧ c < 262144) : Fits "du" [a, c]
  | dj {a c : Int} (ha : R16 a) (hc : -131072 ≤ c ∧ c ≤ 131071) : Fits "dj" [a, c]
  | d {a : Int} (ha : R16 a) : Fits "d" [a]
  | s {a : Int} (ha : R16 a) : Fits "s" [a]
def stepE (s : Int × Int) (p : Nat × Int) : Int × Int := if p.1 = 100 ∨ p.1 = 115 then (s.1 + p.2 * 2 ^ s.2.toNat, s.2 - 4) else if p.1 = 105 then (s.1 + p.2 % 16384, s.2) else (s.1 + p.2 % 262144, s.2)
def goE (l : List (Nat × Int)) (w : Int) : Int × Int := l.foldl stepE (w, 22)
def encW (n : Nat) (fm : Str) (xs : List Int) : Int := (goE (fm.cps.toList.zip xs) (((n : Int) + 1) * 67108864)).1
def sg (b h : Int) : Int := if h ≤ b then b - 2 * h else b
def imm (c : Nat) (w : Int) : Int := if c = 105 then sg (w % 16384) 8192 else if c = 106 then sg (w % 262144) 131072 else w % 262144
def stepD (w : Int) (s : List Int × Int) (c : Nat) : List Int × Int := if c = 100 ∨ c = 115 then (s.1 ++ [w / 2 ^ s.2.toNat % 16], s.2 - 4) else (s.1 ++ [imm c w], s.2)
def goD (w : Int) (l : List Nat) : List Int × Int := l.foldl (stepD w) ([], 22)
def fieldsOf (fm : Str) (w : Int) : List Int := (goD w fm.cps.toList).1
theorem cps_dss : (("dss" : Str).cps.toList) = [100, 115, 115] := rfl
theorem cps_dsi : (("dsi" : Str).cps.toList) = [100, 115, 105] := rfl
theorem cps_ssi : (("ssi" : Str).cps.toList) = [115, 115, 105] := rfl
theorem cps_du : (("du" : Str).cps.toList) = [100, 117] := rfl
theorem cps_dj : (("dj" : Str).cps.toList) = [100, 106] := rfl
theorem cps_d : (("d" : Str).cps.toList) = [100] := rfl
theorem cps_s : (("s" : Str).cps.toList) = [115] := rfl
section
variable {n : Nat} {a b c : Int}
local macro_rules | `(tactic| walk_at "enc") => `(tactic| (simp only [encW, goE, cps_dss, cps_dsi, cps_ssi, cps_du, cps_dj, cps_d, cps_s, List.zip_cons_cons, List.zip_nil_left, List.foldl_cons, List.foldl_nil, stepE]; simp))
theorem enc_dss : encW n "dss" [a, b, c] = ((n : Int) + 1) * 67108864 + a * 4194304 + b * 262144 + c * 16384 := by walk_at "enc"
theorem enc_dsi : encW n "dsi" [a, b, c] = ((n : Int) + 1) * 67108864 + a * 4194304 + b * 262144 + c % 16384 := by walk_at "enc"
theorem enc_ssi : encW n "ssi" [a, b, c] = ((n : Int) + 1) * 67108864 + a * 4194304 + b * 262144 + c % 16384 := by walk_at "enc"
theorem enc_du : encW n "du" [a, c] = ((n : Int) + 1) * 67108864 + a * 4194304 + c % 262144 := by walk_at "enc"
theorem enc_dj : encW n "dj" [a, c] = ((n : Int) + 1) * 67108864 + a * 4194304 + c % 262144 := by walk_at "enc"
theorem enc_d : encW n "d" [a] = ((n : Int) + 1) * 67108864 + a * 4194304 := by walk_at "enc"
theorem enc_s : encW n "s" [a] = ((n : Int) + 1) * 67108864 + a * 4194304 := by walk_at "enc"
end
section
variable {w : Int}
local macro_rules | `(tactic| walk_at "fld") => `(tactic| (simp only [fieldsOf, goD, cps_dss, cps_dsi, cps_ssi, cps_du, cps_dj, cps_d, cps_s, List.foldl_cons, List.foldl_nil, stepD, imm]; simp))
theorem fld_dss : fieldsOf "dss" w = [w / 4194304 % 16, w / 262144 % 16, w / 16384 % 16] := by walk_at "fld"
theorem fld_dsi : fieldsOf "dsi" w = [w / 4194304 % 16, w / 262144 % 16, sg (w % 16384) 8192] := by walk_at "fld"
theorem fld_ssi : fieldsOf "ssi" w = [w / 4194304 % 16, w / 262144 % 16, sg (w % 16384) 8192] := by walk_at "fld"
theorem fld_du : fieldsOf "du" w = [w / 4194304 % 16, w % 262144] := by walk_at "fld"
theorem fld_dj : fieldsOf "dj" w = [w / 4194304 % 16, sg (w % 262144) 131072] := by walk_at "fld"
theorem fld_d : fieldsOf "d" w = [w / 4194304 % 16] := by walk_at "fld"
theorem fld_s : fieldsOf "s" w = [w / 4194304 % 16] := by walk_at "fld"
end
theorem Fits.enc {n : Nat} {fm : Str} {xs : List Int} (h : Fits fm xs) : fieldsOf fm (encW n fm xs) = xs ∧ encW n fm xs / 67108864 = (n : Int) + 1 ∧ 0 ≤ encW n fm xs := by
  cases h with
  | dss ha hb hc => rw [enc_dss, fld_dss]; unfold R16 at ha hb hc; refine ⟨?_, by omega, by omega⟩; congr 1; omega; congr 1; omega; congr 1; omega
  | dsi ha hb hc => rw [enc_dsi, fld_dsi]; unfold R16 at ha hb; refine ⟨?_, by omega, by omega⟩; congr 1; omega; congr 1; omega; congr 1; unfold sg; split <;> omega
  | ssi ha hb hc => rw [enc_ssi, fld_ssi]; unfold R16 at ha hb; refine ⟨?_, by omega, by omega⟩; congr 1; omega; congr 1; omega; congr 1; unfold sg; split <;> omega
  | du ha hc => rw [enc_du, fld_du]; unfold R16 at ha; refine ⟨?_, by omega, by omega⟩; congr 1; omega; congr 1; omega
  | dj ha hc => rw [enc_dj, fld_dj]; unfold R16 at ha; refine ⟨?_, by omega, by omega⟩; congr 1; omega; congr 1; unfold sg; split <;> omega
  | d ha => rw [enc_d, fld_d]; unfold R16 at ha; refine ⟨?_, by omega, by omega⟩; congr 1; omega
  | s ha => rw [enc_s, fld_s]; unfold R16 at ha; refine ⟨?_, by omega, by omega⟩; congr 1; omega
def forms : List Str := ["dss", "dsi", "ssi", "du", "dj", "d", "s"]
theorem r16m (x : Int) : R16 (x % 16) := ⟨Int.emod_nonneg _ (by decide), Int.emod_lt_of_pos _ (by decide)⟩
theorem fits_of {fm : Str} (h : fm ∈ forms) (w : Int) : Fits fm (fieldsOf fm w) := by
  simp only [forms, List.mem_cons, List.not_mem_nil, or_false] at h
  rcases h with rfl | rfl | rfl | rfl | rfl | rfl | rfl
  · rw [fld_dss]; exact .dss (r16m _) (r16m _) (r16m _)
  · rw [fld_dsi]; exact .dsi (r16m _) (r16m _) (by unfold sg; split <;> omega)
  · rw [fld_ssi]; exact .ssi (r16m _) (r16m _) (by unfold sg; split <;> omega)
  · rw [fld_du]; exact .du (r16m _) (by omega)
  · rw [fld_dj]; exact .dj (r16m _) (by unfold sg; split <;> omega)
  · rw [fld_d]; exact .d (r16m _)
  · rw [fld_s]; exact .s (r16m _)
theorem ops_forms : ∀ p ∈ opsT, p.2 ∈ forms := by decide +kernel
theorem ops_nodup : ∀ m, m < 38 → ∀ n, n < 38 → (opsT[m]?.map (·.1)) = (opsT[n]?.map (·.1)) → m = n := by decide +kernel
/-- the n-th op with its form and fields that fit -/
structure Ins (n : Nat) (op fm : Str) (xs : List Int) : Prop where
  at_ : opsT[n]? = some (op, fm)
  fits : Fits fm xs
theorem Ins.inj {n n' : Nat} {op op' fm fm' : Str} {xs xs' : List Int} (h : Ins n op fm xs) (h' : Ins n' op' fm' xs') (e : encW n fm xs = encW n' fm' xs') : op = op' ∧ fm = fm' ∧ xs = xs' ∧ n = n' := by
  have a1 := h.fits.enc (n := n)
  have a2 := h'.fits.enc (n := n')
  have en : n = n' := by rw [e] at a1; omega
  subst en
  have q := Option.some.inj (h.at_.symm.trans h'.at_)
  cases q
  refine ⟨rfl, rfl, ?_, rfl⟩
  rw [← a1.1, e, a2.1]
end K08


open PySem.W
namespace K08
theorem sc_encode : FnScope ["instruction", "op", "word", "shift", "kind", "operand"] ["instruction"] (defScope s_encode) := ⟨rfl, rfl, rfl, by decide +kernel, rfl, by decide +kernel, by decide +kernel⟩
theorem sc_law_ops : FnScope [] [] (defScope s_law_ops) := ⟨rfl, rfl, rfl, by decide +kernel, rfl, by decide +kernel, by decide +kernel⟩
theorem sc_law_word : FnScope ["row", "word"] ["row"] (defScope s_law_word) := ⟨rfl, rfl, rfl, by decide +kernel, rfl, by decide +kernel, by decide +kernel⟩
abbrev kS (s : Str) : Key := Sum.inr s
inductive RFits : Str → List Int → Prop
  | dss {a b c : Int} (ha : R16 a) (hb : R16 b) (hc : R16 c) : RFits "dss" [a, b, c]
  | dsi {a b c : Int} (ha : R16 a) (hb : R16 b) : RFits "dsi" [a, b, c]
  | ssi {a b c : Int} (ha : R16 a) (hb : R16 b) : RFits "ssi" [a, b, c]
  | du {a c : Int} (ha : R16 a) : RFits "du" [a, c]
  | dj {a c : Int} (ha : R16 a) : RFits "dj" [a, c]
  | d {a : Int} (ha : R16 a) : RFits "d" [a]
  | s {a : Int} (ha : R16 a) : RFits "s" [a]
def insV (op : Str) (xs : List Int) : List V := .str op :: xs.map V.int
def TK (H H' : Hp) : Prop := ∀ a xs, H a = some (.tup xs) → H' a = some (.tup xs)
theorem TK.same {H H' : Hp} (s : Same H H') : TK H H' := fun a xs h => s a _ h
theorem TK.lst {H H' : Hp} {c : Addr} {xs : List V} (b : But c H H') (h : H c = some (.lst xs)) : TK H H' := fun a ys q => b a _ (ne_of q h (by intro z; cases z)) q
theorem TK.dic {H H' : Hp} {c : Addr} {xs : List (Key × V)} (b : But c H H') (h : H c = some (.dK xs)) : TK H H' := fun a ys q => b a _ (ne_of q h (by intro z; cases z)) q
def kDG (Q : VK) : V → V → Hp → Prop := fun x y H2 => ∃ a v, x = .ref a ∧ DGet H2 a y (some v) ∧ Q v H2
theorem w_dget {td ty : TE} {σ : L2.St} {H : Hp} {Q : VK} (q : td σ H fun x H1 => ty σ H1 fun y H2 => kDG Q x y H2) : tDGet td ty σ H Q := q
theorem w_kDG {p : Addr} {kvs : List (Key × V)} {z : Str} {v : V} {H : Hp} {Q : VK} (h : H p = some (.dK kvs)) (e : valV kvs (kS z) = some v) (q : Q v H) : kDG Q (.ref p) (.str z) H := ⟨p, v, rfl, by have := DGet.k (k := kS z) h; rw [e] at this; exact this, q⟩
def kDP (D : Ends) (σ : L2.St) (v : V) : V → V → Hp → Prop := fun x y H3 => ∃ a H4, x = .ref a ∧ DPut H3 a y v H4 ∧ D.nx σ H4
theorem w_dput {td ty tv : TE} {D : Ends} {σ : L2.St} {H : Hp} (q : tv σ H fun v H1 => td σ H1 fun x H2 => ty σ H2 fun y H3 => kDP D σ v x y H3) : sDPut td ty tv D σ H := q
theorem w_kDP {p : Addr} {kvs kvs' : List (Key × V)} {z : Str} {v : V} {D : Ends} {σ : L2.St} {H : Hp} (h : H p = some (.dK kvs)) (hl : kvs.length < 1000) (e : putK kvs (kS z) v = kvs') (q : ∀ H', H' p = some (.dK kvs') → But p H H' → D.nx σ H') : kDP D σ v (.ref p) (.str z) H :=
  ⟨p, _, rfl, DPut.k (k := kS z) h (Nat.lt_of_lt_of_le hl (by decide)), q _ (by rw [e]; exact upd_same) But.set⟩
theorem pick_any (l : List V) {k : Int} (h0 : 0 ≤ k) (h1 : k < l.length) : ∃ v, v ∈ l ∧ atI l k = some v := by
  obtain ⟨n, rfl⟩ := Int.eq_ofNat_of_zero_le h0
  have hn : n < l.length := by omega
  exact ⟨l[n], List.getElem_mem hn, atI_nat (List.getElem?_eq_getElem hn)⟩
theorem DrawC.hdl {H : Hp} {d c : Addr} (h : DrawC H d c) : (∃ xs, H d = some (.lst xs)) ∧ H d = H d := ⟨by obtain ⟨cs, i, cur, seed, hd, _⟩ := h; exact ⟨_, hd⟩, rfl⟩
def B8 (x : Int) : Prop := 0 ≤ x ∧ x < 256
theorem fresh {H H2 : Hp} {p : Addr} (s : Same H H2) (n : H2 p = none) : H p = none := by
  cases e : H p with
  | none => rfl
  | some o => have := s _ _ e; rw [n] at this; cases this
theorem first_at {n : Nat} {op fm : Str} (h : opsT[n]? = some (op, fm)) : (opsT.map (·.1))[n]? = some op ∧ (∀ m, m < n → (opsT.map (·.1))[m]? ≠ some op) := by
  have hn : n < 38 := (List.getElem?_eq_some_iff.mp h).1
  have e : (opsT.map (·.1))[n]? = some op := by rw [List.getElem?_map, h]; rfl
  refine ⟨e, fun m hm z => ?_⟩
  have := ops_nodup m (by omega) n hn (by rw [← List.getElem?_map, ← List.getElem?_map, z, e])
  omega
theorem op_read : ∀ n, n < 38 → ∀ p : Str × Str, opsT[n]? = some p → (inV (.str p.1) [.str "get", .str "put", .str "exit"] = decide (p.2 = "d" ∨ p.2 = "s") ∧ (p.1 = "lui" ↔ p.2 = "du") ∧ (p.1 = "jal" ↔ p.2 = "dj") ∧ (n + 1 < 14 ↔ p.2 = "dss")) := by
  have h : ∀ n, n < 38 → (match opsT[n]? with | some p => decide (inV (.str p.1) [.str "get", .str "put", .str "exit"] = decide (p.2 = "d" ∨ p.2 = "s") ∧ (p.1 = "lui" ↔ p.2 = "du") ∧ (p.1 = "jal" ↔ p.2 = "dj") ∧ (n + 1 < 14 ↔ p.2 = "dss")) | none => true) = true := by decide +kernel
  intro n hn p e
  have := h n hn
  rw [e] at this
  exact of_decide_eq_true this
theorem w_isiTT {K : PySem.W.Frag} {t : Addr} {xs : List V} {H : Hp} {Q : VK} (h : H t = some (.tup xs)) (q : Q (.bl true) H) : rIsi K [.ref t, .ty "tuple"] H Q := ⟨.ref t, .ty "tuple", .type "tuple", .type "tuple", true, rfl, .ty _, .base (.tup h), kit_ty (by decide +kernel), q⟩
theorem op_dss : ∀ n, n < 38 → ∀ p : Str × Str, opsT[n]? = some p → (((p.2 = ("dss" : Str)) ↔ n < 13) ∧ p.1 ≠ "word") := by
  have h : ∀ n, n < 38 → (match opsT[n]? with | some p => decide (((p.2 = "dss") ↔ n < 13) ∧ p.1 ≠ "word") | none => true) = true := by decide +kernel
  intro n hn p e
  have := h n hn
  rw [e] at this
  exact of_decide_eq_true this
section
variable {P : Program} {w : World} {K : PySem.W.Frag} {mg : Str → Option Value} {base : Heap}
def spOps : Sp := fun vs H Q _ => vs = [] ∧ ∀ p H', H p = none → Same H H' → H' p = some (.lst ((opsT.map (·.1)).map V.str)) → Q (.ref p) H'
theorem ok_law_ops (Z : St1 K mg "_law_ops" s_law_ops []) : Cd P w K mg base 1 "_law_ops" spOps := by
  refine Z.cd sc_law_ops (fun vs H Q E h => by obtain ⟨rfl, _⟩ := h; rfl) (fun f cdv A outer s H vs Q E hr h => ?_)
  obtain ⟨rfl, q⟩ := h
  refine ⟨_, (pss_one (ps_ret (pe_lst (pa_cons pe_str (pa_cons pe_str (pa_cons pe_str (pa_cons pe_str (pa_cons pe_str (pa_cons pe_str (pa_cons pe_str (pa_cons pe_str (pa_cons pe_str (pa_cons pe_str (pa_cons pe_str (pa_cons pe_str (pa_cons pe_str (pa_cons pe_str (pa_cons pe_str (pa_cons pe_str (pa_cons pe_str (pa_cons pe_str (pa_cons pe_str (pa_cons pe_str (pa_cons pe_str (pa_cons pe_str (pa_cons pe_str (pa_cons pe_str (pa_cons pe_str (pa_cons pe_str (pa_cons pe_str (pa_cons pe_str (pa_cons pe_str (pa_cons pe_str (pa_cons pe_str (pa_cons pe_str (pa_cons pe_str (pa_cons pe_str (pa_cons pe_str (pa_cons pe_str (pa_cons pe_str (pa_cons pe_str pa_nil))))))))))))))))))))))))))))))))))))))))), ?_⟩
  (with_reducible refine w_ret ?_)
  (with_reducible refine w_lst ?_)
  (with_reducible refine w_cons ?_)
  (with_reducible refine w_c ?_)
  (with_reducible refine w_cons ?_)
  (with_reducible refine w_c ?_)
  (with_reducible refine w_cons ?_)
  (with_reducible refine w_c ?_)
  (with_reducible refine w_cons ?_)
  (with_reducible refine w_c ?_)
  (with_reducible refine w_cons ?_)
  (with_reducible refine w_c ?_)
  (with_reducible refine w_cons ?_)
  (with_reducible refine w_c ?_)
  (with_reducible refine w_cons ?_)
  (with_reducible refine w_c ?_)
  (with_reducible refine w_cons ?_)
  (with_reducible refine w_c ?_)
  (with_reducible refine w_cons ?_)
  (with_reducible refine w_c ?_)
  (with_reducible refine w_cons ?_)
  (with_reducible refine w_c ?_)
  (with_reducible refine w_cons ?_)
  (with_reducible refine w_c ?_)
  (with_reducible refine w_cons ?_)
  (with_reducible refine w_c ?_)
  (with_reducible refine w_cons ?_)
  (with_reducible refine w_c ?_)
  (with_reducible refine w_cons ?_)
  (with_reducible refine w_c ?_)
  (with_reducible refine w_cons ?_)
  (with_reducible refine w_c ?_)
  (with_reducible refine w_cons ?_)
  (with_reducible refine w_c ?_)
  (with_reducible refine w_cons ?_)
  (with_reducible refine w_c ?_)
  (with_reducible refine w_cons ?_)
  (with_reducible refine w_c ?_)
  (with_reducible refine w_cons ?_)
  (with_reducible refine w_c ?_)
  (with_reducible refine w_cons ?_)
  (with_reducible refine w_c ?_)
  (with_reducible refine w_cons ?_)
  (with_reducible refine w_c ?_)
  (with_reducible refine w_cons ?_)
  (with_reducible refine w_c ?_)
  (with_reducible refine w_cons ?_)
  (with_reducible refine w_c ?_)
  (with_reducible refine w_cons ?_)
  (with_reducible refine w_c ?_)
  (with_reducible refine w_cons ?_)
  (with_reducible refine w_c ?_)
  (with_reducible refine w_cons ?_)
  (with_reducible refine w_c ?_)
  (with_reducible refine w_cons ?_)
  (with_reducible refine w_c ?_)
  (with_reducible refine w_cons ?_)
  (with_reducible refine w_c ?_)
  (with_reducible refine w_cons ?_)
  (with_reducible refine w_c ?_)
  (with_reducible refine w_cons ?_)
  (with_reducible refine w_c ?_)
  (with_reducible refine w_cons ?_)
  (with_reducible refine w_c ?_)
  (with_reducible refine w_cons ?_)
  (with_reducible refine w_c ?_)
  (with_reducible refine w_cons ?_)
  (with_reducible refine w_c ?_)
  (with_reducible refine w_cons ?_)
  (with_reducible refine w_c ?_)
  (with_reducible refine w_cons ?_)
  (with_reducible refine w_c ?_)
  (with_reducible refine w_cons ?_)
  (with_reducible refine w_c ?_)
  (with_reducible refine w_cons ?_)
  (with_reducible refine w_c ?_)
  (with_reducible refine w_cons ?_)
  (with_reducible refine w_c ?_)
  (with_reducible refine w_nil ?_)
  refine w_kLst (by show 38 ≤ sizeLine; decide) fun p H' np sm hp => ?_
  exact q p H' np sm hp
end
/-- a tuple that the module has written -/
def WTup (K : PySem.W.Frag) (O : Addr) (xs : List V) : Prop := ∃ (its : Array Value) (n : Nat) (sl : Array (Option Value)), K.lookup O = some ⟨.type "tuple", none, .seq its n, sl⟩ ∧ its.size ≤ sizeLine ∧ Vals xs its.toList
theorem WTup.sq {K : PySem.W.Frag} {O : Addr} {xs : List V} (h : WTup K O xs) (H : Hp) : SqT K H O xs := by
  obtain ⟨its, n, sl, l, z, v⟩ := h
  exact .inr ⟨_, its, n, l, rfl, rfl, z, v⟩
theorem WTup.ty {K : PySem.W.Frag} {O : Addr} {xs : List V} (h : WTup K O xs) {H : Hp} {B : Prop} (q : B) : tyV K "tuple" (.ref O) H ∧ B := by
  obtain ⟨its, n, sl, l, z, v⟩ := h
  exact ⟨.inr (.inl ⟨rfl, _, l, rfl, rfl⟩), q⟩
structure Env0 (K : PySem.W.Frag) (w : World) (mg : Str → Option Value) (O F : Addr) : Prop where
  g_OPS : GV mg "OPS" (.ref O)
  g_FORMS : GV mg "FORMS" (.ref F)
  g_LOW_14 : GV mg "LOW_14" (.int 16383)
  g_LOW_18 : GV mg "LOW_18" (.int 262143)
  ops : WTup K O ((opsT.map (·.1)).map V.str)
  rows : ∀ p ∈ opsT, KDct K w F p.1 (.str p.2)
def spEnc (K : PySem.W.Frag) : Sp := fun vs H Q _ => ∃ (t : Addr) (n : Nat) (op fm : Str) (xs : List Int), vs = [.ref t] ∧ SqT K H t (insV op xs) ∧ Ins n op fm xs ∧ ∀ H', Same H H' → Q (.int (encW n fm xs)) H'
theorem Ins.n38 {n : Nat} {op fm : Str} {xs : List Int} (h : Ins n op fm xs) : n < 38 := (List.getElem?_eq_some_iff.mp h.at_).1
theorem Fits.len {fm : Str} {xs : List Int} (h : Fits fm xs) : fm.cps.size = xs.length ∧ xs.length ≤ 3 ∧ ∀ x ∈ xs, -131072 ≤ x ∧ x < 262144 := by
  cases h <;> (refine ⟨rfl, by simp, fun x hx => ?_⟩; simp only [List.mem_cons, List.not_mem_nil, or_false] at hx; unfold R16 at *; rcases hx with rfl | rfl | rfl) <;> omega
section
variable {P : Program} {w : World} {K : PySem.W.Frag} {mg : Str → Option Value} {base : Heap}
theorem ok_encode {O F : Addr} (T : Env0 K w mg O F) (b_zip : mg "zip" = none) (Z : St1 K mg "encode" s_encode ["instruction"]) : Cd P w K mg base 1 "encode" (spEnc K) := by
  obtain ⟨g_OPS, g_FORMS, g_LOW_14, g_LOW_18, ops, rows⟩ := T
  refine Z.cd sc_encode (fun vs H Q E h => by obtain ⟨t, n, op, fm, xs, rfl, _⟩ := h; rfl) (fun f cdv A outer s H vs Q E hr h => ?_)
  obtain ⟨t, n, op, fm, xs, rfl, ht, hi, q⟩ := h
  have hr0 := rows (op, fm) (List.mem_of_getElem? hi.at_)
  have hn := hi.n38
  obtain ⟨fl, f3, fb⟩ := hi.fits.len
  obtain ⟨at1, at2⟩ := first_at hi.at_
  refine ⟨_, (pss_cons (ps_set (i := 1) sc_encode.nd rfl (.inl rfl) (pe_ix ix_tup (pv 0) pe_int (fun _ _ => rfl)))
      (pss_cons (ps_set (i := 2) sc_encode.nd rfl (.inl rfl) (pe_op op_shl (pe_op op_add (pe_bm PySem.F.plainAttrs_tuple PySem.F.slot_tuple_index PySem.F.type_tuple_index mt_tupIxQ (pe_gv (by rfl) g_OPS) (pa_cons (pv 1) pa_nil)) pe_int) pe_int))
      (pss_cons (ps_set (i := 3) sc_encode.nd rfl (.inl rfl) pe_int)
      (Evl.pss_cut (ps_for PassesOwn.never rfl (pi_zipST (by rfl) b_zip (pa_cons (pe_ix ix_kdict (pe_gv (by rfl) g_FORMS) (pv 1) (fun _ _ => rfl)) (pa_cons (pe_slice sl_tupA (pv 0) (po_some pe_int) po_none) pa_nil))) (pg_tup rfl (pgs_cons (pg_name (i := 4) sc_encode.nd rfl (.inl rfl)) (pgs_cons (pg_name (i := 5) sc_encode.nd rfl (.inl rfl)) pgs_nil)))
      (pss_one (ps_if (pt_cmpR op_inSQ (pv 4) pe_str rfl) (pss_cons (ps_aug (i := 2) sc_encode.nd rfl (.inl rfl) (pe_op op_shl (pv 5) (pv 3)) ip_add)
      (pss_one (ps_aug (i := 3) sc_encode.nd rfl (.inl rfl) pe_int ip_sub))) (pss_one (ps_if (pt_cmpR op_eq (pv 4) pe_str (nomark _)) (pss_one (ps_aug (i := 2) sc_encode.nd rfl (.inl rfl) (pe_op op_and (pv 5) (pe_gv (by rfl) g_LOW_14)) ip_add)) (pss_one (ps_aug (i := 2) sc_encode.nd rfl (.inl rfl) (pe_op op_and (pv 5) (pe_gv (by rfl) g_LOW_18)) ip_add)))))))
      (pss_one (ps_ret (pv 2))))))), ?_⟩
  (with_reducible refine w_seq ?_)
  (with_reducible refine w_asg ?_)
  (with_reducible refine w_op ?_)
  ((with_reducible refine' w_var ?hv ?_); (case hv => exact rfl))
  (with_reducible refine w_c ?_)
  refine w_ixTs ht (atI_of (v := .str op) (by decide) rfl) ?_
  (with_reducible refine w_name ?_)
  (with_reducible refine w_seq ?_)
  (with_reducible refine w_asg ?_)
  (with_reducible refine w_op ?_)
  (with_reducible refine w_op ?_)
  (with_reducible refine w_bm ?_)
  (with_reducible refine w_c ?_)
  refine ops.ty ?_
  (with_reducible refine w_cons ?_)
  ((with_reducible refine' w_var ?hv ?_); (case hv => exact rfl))
  (with_reducible refine w_nil ?_)
  refine w_tix (ops.sq H) at1 at2 ?_
  (with_reducible refine w_c ?_)
  (with_reducible refine w_I0 ?_)
  (with_reducible refine w_c ?_)
  ((with_reducible refine w_I ?hc ?_); (case hc => walk_at "side"))
  (with_reducible refine w_name ?_)
  (with_reducible refine w_seq ?_)
  (with_reducible refine w_asg ?_)
  (with_reducible refine w_c ?_)
  (with_reducible refine w_name ?_)
  have ew : ((n : Int) + 1) * 2 ^ (26 : Int).toNat = ((n : Int) + 1) * 67108864 := rfl
  obtain ⟨x0, xr, rfl⟩ : ∃ x0 xr, xs = x0 :: xr := by cases hi.fits <;> exact ⟨_, _, rfl⟩
  have inv0 : ∀ v4 v5 v6 : Option V, True := fun _ _ _ => trivial
  refine Evl.q_cut (M := fun σ' H' => Same H H' ∧ ∃ v4 v5 v6, σ' = [some (.ref t), some (.str op), some (.int (encW n fm (x0 :: xr))), v4, v5, v6]) ?_ ?_
  · (with_reducible refine w_for ?_)
    (with_reducible refine w_zST ?_)
    (with_reducible refine w_cons ?_)
    (with_reducible refine w_op ?_)
    (with_reducible refine w_c ?_)
    ((with_reducible refine' w_var ?hv ?_); (case hv => exact rfl))
    refine w_ixD hr0 ?_
    (with_reducible refine w_cons ?_)
    (with_reducible refine w_sl ?_)
    ((with_reducible refine' w_var ?hv ?_); (case hv => exact rfl))
    (with_reducible refine w_part ?_)
    (with_reducible refine w_c ?_)
    (with_reducible refine w_exI ?_)
    (with_reducible refine w_noPart ?_)
    refine w_rSl1 ht fun p H1 np sm hp => ?_
    (with_reducible refine w_nil ?_)
    have zl : (fm.cps.toList.zip (x0 :: xr)).length = (x0 :: xr).length := by rw [List.length_zip]; simp only [Array.length_toList, fl, Nat.min_self]
    refine w_forZ ((x0 :: xr).map V.int) (fun i σ' H' => Same H1 H' ∧ ∃ v4 v5 v6 : Option V, σ' = [some (.ref t), some (.str op), some (.int (goE ((fm.cps.toList.zip (x0 :: xr)).take i) (((n : Int) + 1) * 67108864)).1), some (.int (goE ((fm.cps.toList.zip (x0 :: xr)).take i) (((n : Int) + 1) * 67108864)).2), v5, v6] ∧ 22 - 4 * (i : Int) ≤ (goE ((fm.cps.toList.zip (x0 :: xr)).take i) (((n : Int) + 1) * 67108864)).2 ∧ (goE ((fm.cps.toList.zip (x0 :: xr)).take i) (((n : Int) + 1) * 67108864)).2 ≤ 22) (.of hp) (by rw [List.length_map]; exact fl) ⟨Same.refl _, none, none, none, rfl, by show (22 : Int) - 4 * 0 ≤ 22; decide, by show (22 : Int) ≤ 22; decide⟩ (fun i σ' H' ⟨sm', _⟩ => .of (sm' _ _ hp)) ?_ ?_
    · rintro i c y T σ' H' H'' hc hy ⟨sm', v4, v5, v6, rfl, lo, hi'⟩ nT sT hT
      obtain ⟨x, hx, rfl⟩ := map_get hy
      have hil : i < (x0 :: xr).length := (List.getElem?_eq_some_iff.mp hx).1
      have hb := fb x (List.mem_of_getElem? hx)
      have hz : (fm.cps.toList.zip (x0 :: xr))[i]? = some (c, x) := by
        rw [List.getElem?_zip_eq_some]
        exact ⟨by simpa using hc, hx⟩
      have tk := take_more hz
      have st : goE ((fm.cps.toList.zip (x0 :: xr)).take (i + 1)) (((n : Int) + 1) * 67108864) = stepE (goE ((fm.cps.toList.zip (x0 :: xr)).take i) (((n : Int) + 1) * 67108864)) (c, x) := by
        rw [tk]; unfold goE; rw [List.foldl_append]; rfl
      generalize goE ((fm.cps.toList.zip (x0 :: xr)).take i) (((n : Int) + 1) * 67108864) = s0 at *
      obtain ⟨wd, sh⟩ := s0
      ((with_reducible refine' w_gTup ?hh ?hn ?_); (case hh => assumption); (case hn => exact rfl))
      (with_reducible refine w_gCons ?_)
      (with_reducible refine w_name ?_)
      (with_reducible refine w_gCons ?_)
      (with_reducible refine w_name ?_)
      (with_reducible refine w_gNil ?_)
      (with_reducible refine w_ifS ?_)
      (with_reducible refine w_test ?_)
      (with_reducible refine w_op ?_)
      ((with_reducible refine' w_var ?hv ?_); (case hv => exact rfl))
      (with_reducible refine w_c ?_)
      (with_reducible refine w_inSg ?_)
      (with_reducible refine w_bl ?_)
      have hi3 : i < 3 := by omega
      simp only at lo hi'
      refine w_dec (fun e => ?_) (fun e => ?_)
      · have e' : c = 100 ∨ c = 115 := by simpa using (show c ∈ [100, 115] from e)
        (with_reducible refine w_seq ?_)
        ((with_reducible refine' w_aug ?hh ?_); (case hh => exact rfl))
        (with_reducible refine w_op ?_)
        ((with_reducible refine' w_var ?hv ?_); (case hv => exact rfl))
        ((with_reducible refine' w_var ?hv ?_); (case hv => exact rfl))
        ((with_reducible refine w_I ?hc ?_); (case hc => walk_at "side"))
        (with_reducible refine w_ipI ?_)
        ((with_reducible refine' w_aug ?hh ?_); (case hh => exact rfl))
        (with_reducible refine w_c ?_)
        (with_reducible refine w_ipI ?_)
        have s1 : stepE (wd, sh) (c, x) = (wd + x * 2 ^ sh.toNat, sh - 4) := if_pos e'
        rw [s1] at st
        exact ⟨sm'.trans sT, none, _, _, by rw [st]; rfl, by rw [st]; show 22 - 4 * ((i + 1 : Nat) : Int) ≤ sh - 4; omega, by rw [st]; show sh - 4 ≤ 22; omega⟩
      · have e' : ¬ (c = 100 ∨ c = 115) := fun z => e (show c ∈ [100, 115] by simpa using z)
        (with_reducible refine w_ifS ?_)
        (with_reducible refine w_test ?_)
        (with_reducible refine w_op ?_)
        ((with_reducible refine' w_var ?hv ?_); (case hv => exact rfl))
        (with_reducible refine w_c ?_)
        (with_reducible refine w_eqS ?_)
        (with_reducible refine w_bl ?_)
        refine w_dec (fun e2 => ?_) (fun e2 => ?_)
        · have e3 : c = 105 := Option.some.inj (congrArg (fun z : Str => z.cps[0]?) e2)
          ((with_reducible refine' w_aug ?hh ?_); (case hh => exact rfl))
          (with_reducible refine w_op ?_)
          ((with_reducible refine' w_var ?hv ?_); (case hv => exact rfl))
          (with_reducible refine w_c ?_)
          (with_reducible refine w_I0 ?_)
          (with_reducible refine w_ipI ?_)
          have s1 : stepE (wd, sh) (c, x) = (wd + x % 16384, sh) := (if_neg e').trans (if_pos e3)
          rw [s1] at st
          have eb : Builtin.bitAnd x 16383 = x % 16384 := PySem.W.kbt_mask x 14
          refine ⟨sm'.trans sT, none, _, _, by rw [st, eb]; rfl, by rw [st]; show 22 - 4 * ((i + 1 : Nat) : Int) ≤ sh; omega, by rw [st]; show sh ≤ 22; omega⟩
        · have e3 : c ≠ 105 := fun z => e2 (by rw [z]; rfl)
          ((with_reducible refine' w_aug ?hh ?_); (case hh => exact rfl))
          (with_reducible refine w_op ?_)
          ((with_reducible refine' w_var ?hv ?_); (case hv => exact rfl))
          (with_reducible refine w_c ?_)
          (with_reducible refine w_I0 ?_)
          (with_reducible refine w_ipI ?_)
          have s1 : stepE (wd, sh) (c, x) = (wd + x % 262144, sh) := (if_neg e').trans (if_neg e3)
          rw [s1] at st
          have eb : Builtin.bitAnd x 262143 = x % 262144 := PySem.W.kbt_mask x 18
          refine ⟨sm'.trans sT, none, _, _, by rw [st, eb]; rfl, by rw [st]; show 22 - 4 * ((i + 1 : Nat) : Int) ≤ sh; omega, by rw [st]; show sh ≤ 22; omega⟩
    · rintro σ' H' ⟨sm', v4, v5, v6, rfl, _⟩
      rw [List.length_map, ← zl, List.take_length]
      exact ⟨sm.trans sm', _, _, _, rfl⟩
  · rintro σ' H' ⟨sm, v4, v5, v6, rfl⟩
    (with_reducible refine w_ret ?_)
    ((with_reducible refine' w_var ?hv ?_); (case hv => exact rfl))
    exact q H' sm
end
def spWordS (K : PySem.W.Frag) : Sp := fun vs H Q _ => ∃ (t : Addr) (n : Nat) (op fm : Str) (xs : List Int), vs = [.ref t] ∧ SqT K H t (insV op xs) ∧ opsT[n]? = some (op, fm) ∧ RFits fm xs ∧ ∀ H', Same H H' → Q (.int (encW n fm xs)) H'
theorem Fits.r {fm : Str} {xs : List Int} (h : Fits fm xs) : RFits fm xs := by
  cases h
  · exact .dss ‹_› ‹_› ‹_›
  · exact .dsi ‹_› ‹_›
  · exact .ssi ‹_› ‹_›
  · exact .du ‹_›
  · exact .dj ‹_›
  · exact .d ‹_›
  · exact .s ‹_›
section
variable {P : Program} {w : World} {K : PySem.W.Frag} {mg : Str → Option Value} {base : Heap}
theorem ok_law_wordS (b_len : mg "len" = none) (b_int : mg "int" = none) (c_law_ops : Cd P w K mg base 1 "_law_ops" spOps) (Z : St1 K mg "_law_word" s_law_word ["row"]) : Cd P w K mg base 2 "_law_word" (spWordS K) := by
  refine Z.cd sc_law_word (fun vs H Q E h => by obtain ⟨t, n, op, fm, xs, rfl, _⟩ := h; rfl) (fun f cdv A outer s H vs Q E hr h => ?_)
  obtain ⟨t, n, op, fm, xs, rfl, ht, hi, hf, q⟩ := h
  have hn : n < 38 := (List.getElem?_eq_some_iff.mp hi).1
  obtain ⟨at1, at2⟩ := first_at hi
  have of := (op_dss n hn _ hi).1
  refine ⟨_, (pss_cons (ps_set (i := 1) sc_law_word.nd rfl (.inl rfl) (pe_op op_add (pe_op op_mul (pe_op op_add (pe_bm PySem.F.plainAttrs_list PySem.F.slot_list_index PySem.F.type_list_index mt_index (pe_cd0 c_law_ops hr (by first | decide | omega) (by rfl)) (pa_cons (pe_ix ix_tup (pv 0) pe_int (fun _ _ => rfl)) pa_nil)) pe_int) (pe_op op_pow pe_int pe_int)) (pe_op op_mul (pe_ix ix_tup (pv 0) pe_int (fun _ _ => rfl)) (pe_op op_pow pe_int pe_int))))
      (pss_cons (ps_if (pt_cmpR op_eq (pe_callB call_lenQ (by rfl) b_len PySem.boot_len (pa_cons (pv 0) pa_nil)) pe_int (nomark _)) (pss_one (ps_ret (pv 1))) pss_nil)
      (pss_cons (ps_if (pt_cmpR op_eq (pe_callB call_lenQ (by rfl) b_len PySem.boot_len (pa_cons (pv 0) pa_nil)) pe_int (nomark _)) (pss_one (ps_ret (pe_op op_add (pv 1) (pe_op op_mod (pe_callTy call_intQ (by rfl) b_int (by decide +kernel) (pa_cons (pe_ix ix_tup (pv 0) pe_int (fun _ _ => rfl)) pa_nil)) (pe_op op_pow pe_int pe_int))))) pss_nil)
      (pss_cons (ps_if (pt_cmpR op_lt (pe_bm PySem.F.plainAttrs_list PySem.F.slot_list_index PySem.F.type_list_index mt_index (pe_cd0 c_law_ops hr (by first | decide | omega) (by rfl)) (pa_cons (pe_ix ix_tup (pv 0) pe_int (fun _ _ => rfl)) pa_nil)) pe_int (nomark _)) (pss_one (ps_ret (pe_op op_add (pe_op op_add (pv 1) (pe_op op_mul (pe_ix ix_tup (pv 0) pe_int (fun _ _ => rfl)) (pe_op op_pow pe_int pe_int))) (pe_op op_mul (pe_ix ix_tup (pv 0) pe_int (fun _ _ => rfl)) (pe_op op_pow pe_int pe_int))))) pss_nil)
      (pss_one (ps_ret (pe_op op_add (pe_op op_add (pv 1) (pe_op op_mul (pe_ix ix_tup (pv 0) pe_int (fun _ _ => rfl)) (pe_op op_pow pe_int pe_int))) (pe_op op_mod (pe_callTy call_intQ (by rfl) b_int (by decide +kernel) (pa_cons (pe_ix ix_tup (pv 0) pe_int (fun _ _ => rfl)) pa_nil)) (pe_op op_pow pe_int pe_int))))))))), ?_⟩
  (with_reducible refine w_seq ?_)
  (with_reducible refine w_asg ?_)
  (with_reducible refine w_op ?_)
  (with_reducible refine w_op ?_)
  (with_reducible refine w_op ?_)
  (with_reducible refine w_bm ?_)
  (with_reducible refine w_call ?_)
  (with_reducible refine w_nil ?_)
  refine ⟨rfl, fun p H1 np sm hp => ?_⟩
  ((with_reducible refine' w_tyL ?hh ?_); (case hh => assumption))
  (with_reducible refine w_cons ?_)
  (with_reducible refine w_op ?_)
  ((with_reducible refine' w_var ?hv ?_); (case hv => exact rfl))
  (with_reducible refine w_c ?_)
  refine w_ixTs (sm.sqT ht) (atI_of (v := .str op) (by decide) rfl) ?_
  (with_reducible refine w_nil ?_)
  refine w_lix hp at1 at2 ?_
  (with_reducible refine w_c ?_)
  (with_reducible refine w_I0 ?_)
  (with_reducible refine w_op ?_)
  (with_reducible refine w_c ?_)
  (with_reducible refine w_c ?_)
  (with_reducible refine w_p26 ?_)
  ((with_reducible refine w_I ?hc ?_); (case hc => walk_at "side"))
  (with_reducible refine w_op ?_)
  (with_reducible refine w_op ?_)
  ((with_reducible refine' w_var ?hv ?_); (case hv => exact rfl))
  (with_reducible refine w_c ?_)
  have key : ∀ (a : Int) (r : List Int), xs = a :: r → R16 a := by
    intro a r e
    cases hf <;> (cases e; assumption)
  cases hf with
  | dss ha hb hc =>
    rename_i a b c
    have hn13 := of.mp rfl
    unfold R16 at ha hb hc
    refine w_ixTs (sm.sqT ht) (atI_of (v := .int a) (by decide) rfl) ?_
    (with_reducible refine w_op ?_)
    (with_reducible refine w_c ?_)
    (with_reducible refine w_c ?_)
    (with_reducible refine w_p22 ?_)
    ((with_reducible refine w_I ?hc ?_); (case hc => walk_at "side"))
    (with_reducible refine w_I0 ?_)
    (with_reducible refine w_name ?_)
    (with_reducible refine w_seq ?_)
    (with_reducible refine w_ifS ?_)
    (with_reducible refine w_test ?_)
    (with_reducible refine w_op ?_)
    (with_reducible refine w_cb ?_)
    (with_reducible refine w_cons ?_)
    ((with_reducible refine' w_var ?hv ?_); (case hv => exact rfl))
    (with_reducible refine w_nil ?_)
    refine w_lenTn 4 (sm.sqT ht) rfl ?_
    (with_reducible refine w_c ?_)
    (with_reducible refine w_eqI ?_)
    (with_reducible refine w_bl ?_)
    (refine w_decF ?hd ?_; (case hd => decide))
    (with_reducible refine w_next ?_)
    (with_reducible refine w_seq ?_)
    (with_reducible refine w_ifS ?_)
    (with_reducible refine w_test ?_)
    (with_reducible refine w_op ?_)
    (with_reducible refine w_cb ?_)
    (with_reducible refine w_cons ?_)
    ((with_reducible refine' w_var ?hv ?_); (case hv => exact rfl))
    (with_reducible refine w_nil ?_)
    refine w_lenTn 4 (sm.sqT ht) rfl ?_
    (with_reducible refine w_c ?_)
    (with_reducible refine w_eqI ?_)
    (with_reducible refine w_bl ?_)
    (refine w_decF ?hd ?_; (case hd => decide))
    (with_reducible refine w_next ?_)
    (with_reducible refine w_seq ?_)
    (with_reducible refine w_ifS ?_)
    (with_reducible refine w_test ?_)
    (with_reducible refine w_op ?_)
    (with_reducible refine w_bm ?_)
    (with_reducible refine w_call ?_)
    (with_reducible refine w_nil ?_)
    refine ⟨rfl, fun p2 H2 np2 sm2 hp2 => ?_⟩
    have ht2 := (sm.trans sm2).sqT ht
    ((with_reducible refine' w_tyL ?hh ?_); (case hh => assumption))
    (with_reducible refine w_cons ?_)
    (with_reducible refine w_op ?_)
    ((with_reducible refine' w_var ?hv ?_); (case hv => exact rfl))
    (with_reducible refine w_c ?_)
    refine w_ixTs ht2 (atI_of (v := .str op) (by decide) rfl) ?_
    (with_reducible refine w_nil ?_)
    refine w_lix hp2 at1 at2 ?_
    (with_reducible refine w_c ?_)
    (with_reducible refine w_I0 ?_)
    (with_reducible refine w_bl ?_)
    refine w_decT (by omega) ?_
    (with_reducible refine w_ret ?_)
    (with_reducible refine w_op ?_)
    (with_reducible refine w_op ?_)
    ((with_reducible refine' w_var ?hv ?_); (case hv => exact rfl))
    (with_reducible refine w_op ?_)
    (with_reducible refine w_op ?_)
    ((with_reducible refine' w_var ?hv ?_); (case hv => exact rfl))
    (with_reducible refine w_c ?_)
    refine w_ixTs ht2 (atI_of (v := .int b) (by decide) rfl) ?_
    (with_reducible refine w_op ?_)
    (with_reducible refine w_c ?_)
    (with_reducible refine w_c ?_)
    (with_reducible refine w_p18 ?_)
    ((with_reducible refine w_I ?hc ?_); (case hc => walk_at "side"))
    (with_reducible refine w_I0 ?_)
    (with_reducible refine w_op ?_)
    (with_reducible refine w_op ?_)
    ((with_reducible refine' w_var ?hv ?_); (case hv => exact rfl))
    (with_reducible refine w_c ?_)
    refine w_ixTs ht2 (atI_of (v := .int c) (by decide) rfl) ?_
    (with_reducible refine w_op ?_)
    (with_reducible refine w_c ?_)
    (with_reducible refine w_c ?_)
    (with_reducible refine w_p14 ?_)
    ((with_reducible refine w_I ?hc ?_); (case hc => walk_at "side"))
    (with_reducible refine w_I0 ?_)
    have e := q H2 (sm.trans sm2)
    rw [enc_dss] at e
    exact e
  | dsi ha hb =>
    rename_i a b c
    have hn13 : ¬ n < 13 := fun z => absurd (of.mpr z) (by show ¬ (("dsi" : Str) = "dss"); decide)
    unfold R16 at ha hb
    refine w_ixTs (sm.sqT ht) (atI_of (v := .int a) (by decide) rfl) ?_
    (with_reducible refine w_op ?_)
    (with_reducible refine w_c ?_)
    (with_reducible refine w_c ?_)
    (with_reducible refine w_p22 ?_)
    ((with_reducible refine w_I ?hc ?_); (case hc => walk_at "side"))
    (with_reducible refine w_I0 ?_)
    (with_reducible refine w_name ?_)
    (with_reducible refine w_seq ?_)
    (with_reducible refine w_ifS ?_)
    (with_reducible refine w_test ?_)
    (with_reducible refine w_op ?_)
    (with_reducible refine w_cb ?_)
    (with_reducible refine w_cons ?_)
    ((with_reducible refine' w_var ?hv ?_); (case hv => exact rfl))
    (with_reducible refine w_nil ?_)
    refine w_lenTn 4 (sm.sqT ht) rfl ?_
    (with_reducible refine w_c ?_)
    (with_reducible refine w_eqI ?_)
    (with_reducible refine w_bl ?_)
    (refine w_decF ?hd ?_; (case hd => decide))
    (with_reducible refine w_next ?_)
    (with_reducible refine w_seq ?_)
    (with_reducible refine w_ifS ?_)
    (with_reducible refine w_test ?_)
    (with_reducible refine w_op ?_)
    (with_reducible refine w_cb ?_)
    (with_reducible refine w_cons ?_)
    ((with_reducible refine' w_var ?hv ?_); (case hv => exact rfl))
    (with_reducible refine w_nil ?_)
    refine w_lenTn 4 (sm.sqT ht) rfl ?_
    (with_reducible refine w_c ?_)
    (with_reducible refine w_eqI ?_)
    (with_reducible refine w_bl ?_)
    (refine w_decF ?hd ?_; (case hd => decide))
    (with_reducible refine w_next ?_)
    (with_reducible refine w_seq ?_)
    (with_reducible refine w_ifS ?_)
    (with_reducible refine w_test ?_)
    (with_reducible refine w_op ?_)
    (with_reducible refine w_bm ?_)
    (with_reducible refine w_call ?_)
    (with_reducible refine w_nil ?_)
    refine ⟨rfl, fun p2 H2 np2 sm2 hp2 => ?_⟩
    have ht2 := (sm.trans sm2).sqT ht
    ((with_reducible refine' w_tyL ?hh ?_); (case hh => assumption))
    (with_reducible refine w_cons ?_)
    (with_reducible refine w_op ?_)
    ((with_reducible refine' w_var ?hv ?_); (case hv => exact rfl))
    (with_reducible refine w_c ?_)
    refine w_ixTs ht2 (atI_of (v := .str op) (by decide) rfl) ?_
    (with_reducible refine w_nil ?_)
    refine w_lix hp2 at1 at2 ?_
    (with_reducible refine w_c ?_)
    (with_reducible refine w_I0 ?_)
    (with_reducible refine w_bl ?_)
    refine w_decF (by omega) ?_
    (with_reducible refine w_next ?_)
    (with_reducible refine w_ret ?_)
    (with_reducible refine w_op ?_)
    (with_reducible refine w_op ?_)
    ((with_reducible refine' w_var ?hv ?_); (case hv => exact rfl))
    (with_reducible refine w_op ?_)
    (with_reducible refine w_op ?_)
    ((with_reducible refine' w_var ?hv ?_); (case hv => exact rfl))
    (with_reducible refine w_c ?_)
    refine w_ixTs ht2 (atI_of (v := .int b) (by decide) rfl) ?_
    (with_reducible refine w_op ?_)
    (with_reducible refine w_c ?_)
    (with_reducible refine w_c ?_)
    (with_reducible refine w_p18 ?_)
    ((with_reducible refine w_I ?hc ?_); (case hc => walk_at "side"))
    (with_reducible refine w_I0 ?_)
    (with_reducible refine w_op ?_)
    (with_reducible refine w_cb ?_)
    (with_reducible refine w_cons ?_)
    (with_reducible refine w_op ?_)
    ((with_reducible refine' w_var ?hv ?_); (case hv => exact rfl))
    (with_reducible refine w_c ?_)
    refine w_ixTs ht2 (atI_of (v := .int c) (by decide) rfl) ?_
    (with_reducible refine w_nil ?_)
    (with_reducible refine w_int1 ?_)
    (with_reducible refine w_op ?_)
    (with_reducible refine w_c ?_)
    (with_reducible refine w_c ?_)
    (with_reducible refine w_p14 ?_)
    ((with_reducible refine w_I ?hc ?_); (case hc => walk_at "side"))
    (with_reducible refine w_I0 ?_)
    have e := q H2 (sm.trans sm2)
    rw [enc_dsi] at e
    exact e
  | ssi ha hb =>
    rename_i a b c
    have hn13 : ¬ n < 13 := fun z => absurd (of.mpr z) (by show ¬ (("ssi" : Str) = "dss"); decide)
    unfold R16 at ha hb
    refine w_ixTs (sm.sqT ht) (atI_of (v := .int a) (by decide) rfl) ?_
    (with_reducible refine w_op ?_)
    (with_reducible refine w_c ?_)
    (with_reducible refine w_c ?_)
    (with_reducible refine w_p22 ?_)
    ((with_reducible refine w_I ?hc ?_); (case hc => walk_at "side"))
    (with_reducible refine w_I0 ?_)
    (with_reducible refine w_name ?_)
    (with_reducible refine w_seq ?_)
    (with_reducible refine w_ifS ?_)
    (with_reducible refine w_test ?_)
    (with_reducible refine w_op ?_)
    (with_reducible refine w_cb ?_)
    (with_reducible refine w_cons ?_)
    ((with_reducible refine' w_var ?hv ?_); (case hv => exact rfl))
    (with_reducible refine w_nil ?_)
    refine w_lenTn 4 (sm.sqT ht) rfl ?_
    (with_reducible refine w_c ?_)
    (with_reducible refine w_eqI ?_)
    (with_reducible refine w_bl ?_)
    (refine w_decF ?hd ?_; (case hd => decide))
    (with_reducible refine w_next ?_)
    (with_reducible refine w_seq ?_)
    (with_reducible refine w_ifS ?_)
    (with_reducible refine w_test ?_)
    (with_reducible refine w_op ?_)
    (with_reducible refine w_cb ?_)
    (with_reducible refine w_cons ?_)
    ((with_reducible refine' w_var ?hv ?_); (case hv => exact rfl))
    (with_reducible refine w_nil ?_)
    refine w_lenTn 4 (sm.sqT ht) rfl ?_
    (with_reducible refine w_c ?_)
    (with_reducible refine w_eqI ?_)
    (with_reducible refine w_bl ?_)
    (refine w_decF ?hd ?_; (case hd => decide))
    (with_reducible refine w_next ?_)
    (with_reducible refine w_seq ?_)
    (with_reducible refine w_ifS ?_)
    (with_reducible refine w_test ?_)
    (with_reducible refine w_op ?_)
    (with_reducible refine w_bm ?_)
    (with_reducible refine w_call ?_)
    (with_reducible refine w_nil ?_)
    refine ⟨rfl, fun p2 H2 np2 sm2 hp2 => ?_⟩
    have ht2 := (sm.trans sm2).sqT ht
    ((with_reducible refine' w_tyL ?hh ?_); (case hh => assumption))
    (with_reducible refine w_cons ?_)
    (with_reducible refine w_op ?_)
    ((with_reducible refine' w_var ?hv ?_); (case hv => exact rfl))
    (with_reducible refine w_c ?_)
    refine w_ixTs ht2 (atI_of (v := .str op) (by decide) rfl) ?_
    (with_reducible refine w_nil ?_)
    refine w_lix hp2 at1 at2 ?_
    (with_reducible refine w_c ?_)
    (with_reducible refine w_I0 ?_)
    (with_reducible refine w_bl ?_)
    refine w_decF (by omega) ?_
    (with_reducible refine w_next ?_)
    (with_reducible refine w_ret ?_)
    (with_reducible refine w_op ?_)
    (with_reducible refine w_op ?_)
    ((with_reducible refine' w_var ?hv ?_); (case hv => exact rfl))
    (with_reducible refine w_op ?_)
    (with_reducible refine w_op ?_)
    ((with_reducible refine' w_var ?hv ?_); (case hv => exact rfl))
    (with_reducible refine w_c ?_)
    refine w_ixTs ht2 (atI_of (v := .int b) (by decide) rfl) ?_
    (with_reducible refine w_op ?_)
    (with_reducible refine w_c ?_)
    (with_reducible refine w_c ?_)
    (with_reducible refine w_p18 ?_)
    ((with_reducible refine w_I ?hc ?_); (case hc => walk_at "side"))
    (with_reducible refine w_I0 ?_)
    (with_reducible refine w_op ?_)
    (with_reducible refine w_cb ?_)
    (with_reducible refine w_cons ?_)
    (with_reducible refine w_op ?_)
    ((with_reducible refine' w_var ?hv ?_); (case hv => exact rfl))
    (with_reducible refine w_c ?_)
    refine w_ixTs ht2 (atI_of (v := .int c) (by decide) rfl) ?_
    (with_reducible refine w_nil ?_)
    (with_reducible refine w_int1 ?_)
    (with_reducible refine w_op ?_)
    (with_reducible refine w_c ?_)
    (with_reducible refine w_c ?_)
    (with_reducible refine w_p14 ?_)
    ((with_reducible refine w_I ?hc ?_); (case hc => walk_at "side"))
    (with_reducible refine w_I0 ?_)
    have e := q H2 (sm.trans sm2)
    rw [enc_ssi] at e
    exact e
  | du ha =>
    rename_i a c
    unfold R16 at ha
    refine w_ixTs (sm.sqT ht) (atI_of (v := .int a) (by decide) rfl) ?_
    (with_reducible refine w_op ?_)
    (with_reducible refine w_c ?_)
    (with_reducible refine w_c ?_)
    (with_reducible refine w_p22 ?_)
    ((with_reducible refine w_I ?hc ?_); (case hc => walk_at "side"))
    (with_reducible refine w_I0 ?_)
    (with_reducible refine w_name ?_)
    (with_reducible refine w_seq ?_)
    (with_reducible refine w_ifS ?_)
    (with_reducible refine w_test ?_)
    (with_reducible refine w_op ?_)
    (with_reducible refine w_cb ?_)
    (with_reducible refine w_cons ?_)
    ((with_reducible refine' w_var ?hv ?_); (case hv => exact rfl))
    (with_reducible refine w_nil ?_)
    refine w_lenTn 3 (sm.sqT ht) rfl ?_
    (with_reducible refine w_c ?_)
    (with_reducible refine w_eqI ?_)
    (with_reducible refine w_bl ?_)
    (refine w_decF ?hd ?_; (case hd => decide))
    (with_reducible refine w_next ?_)
    (with_reducible refine w_seq ?_)
    (with_reducible refine w_ifS ?_)
    (with_reducible refine w_test ?_)
    (with_reducible refine w_op ?_)
    (with_reducible refine w_cb ?_)
    (with_reducible refine w_cons ?_)
    ((with_reducible refine' w_var ?hv ?_); (case hv => exact rfl))
    (with_reducible refine w_nil ?_)
    refine w_lenTn 3 (sm.sqT ht) rfl ?_
    (with_reducible refine w_c ?_)
    (with_reducible refine w_eqI ?_)
    (with_reducible refine w_bl ?_)
    (refine w_decT ?hd ?_; (case hd => decide))
    (with_reducible refine w_ret ?_)
    (with_reducible refine w_op ?_)
    ((with_reducible refine' w_var ?hv ?_); (case hv => exact rfl))
    (with_reducible refine w_op ?_)
    (with_reducible refine w_cb ?_)
    (with_reducible refine w_cons ?_)
    (with_reducible refine w_op ?_)
    ((with_reducible refine' w_var ?hv ?_); (case hv => exact rfl))
    (with_reducible refine w_c ?_)
    refine w_ixTs (sm.sqT ht) (atI_of (v := .int c) (by decide) rfl) ?_
    (with_reducible refine w_nil ?_)
    (with_reducible refine w_int1 ?_)
    (with_reducible refine w_op ?_)
    (with_reducible refine w_c ?_)
    (with_reducible refine w_c ?_)
    (with_reducible refine w_p18 ?_)
    ((with_reducible refine w_I ?hc ?_); (case hc => walk_at "side"))
    (with_reducible refine w_I0 ?_)
    have e := q H1 sm
    rw [enc_du] at e
    exact e
  | dj ha =>
    rename_i a c
    unfold R16 at ha
    refine w_ixTs (sm.sqT ht) (atI_of (v := .int a) (by decide) rfl) ?_
    (with_reducible refine w_op ?_)
    (with_reducible refine w_c ?_)
    (with_reducible refine w_c ?_)
    (with_reducible refine w_p22 ?_)
    ((with_reducible refine w_I ?hc ?_); (case hc => walk_at "side"))
    (with_reducible refine w_I0 ?_)
    (with_reducible refine w_name ?_)
    (with_reducible refine w_seq ?_)
    (with_reducible refine w_ifS ?_)
    (with_reducible refine w_test ?_)
    (with_reducible refine w_op ?_)
    (with_reducible refine w_cb ?_)
    (with_reducible refine w_cons ?_)
    ((with_reducible refine' w_var ?hv ?_); (case hv => exact rfl))
    (with_reducible refine w_nil ?_)
    refine w_lenTn 3 (sm.sqT ht) rfl ?_
    (with_reducible refine w_c ?_)
    (with_reducible refine w_eqI ?_)
    (with_reducible refine w_bl ?_)
    (refine w_decF ?hd ?_; (case hd => decide))
    (with_reducible refine w_next ?_)
    (with_reducible refine w_seq ?_)
    (with_reducible refine w_ifS ?_)
    (with_reducible refine w_test ?_)
    (with_reducible refine w_op ?_)
    (with_reducible refine w_cb ?_)
    (with_reducible refine w_cons ?_)
    ((with_reducible refine' w_var ?hv ?_); (case hv => exact rfl))
    (with_reducible refine w_nil ?_)
    refine w_lenTn 3 (sm.sqT ht) rfl ?_
    (with_reducible refine w_c ?_)
    (with_reducible refine w_eqI ?_)
    (with_reducible refine w_bl ?_)
    (refine w_decT ?hd ?_; (case hd => decide))
    (with_reducible refine w_ret ?_)
    (with_reducible refine w_op ?_)
    ((with_reducible refine' w_var ?hv ?_); (case hv => exact rfl))
    (with_reducible refine w_op ?_)
    (with_reducible refine w_cb ?_)
    (with_reducible refine w_cons ?_)
    (with_reducible refine w_op ?_)
    ((with_reducible refine' w_var ?hv ?_); (case hv => exact rfl))
    (with_reducible refine w_c ?_)
    refine w_ixTs (sm.sqT ht) (atI_of (v := .int c) (by decide) rfl) ?_
    (with_reducible refine w_nil ?_)
    (with_reducible refine w_int1 ?_)
    (with_reducible refine w_op ?_)
    (with_reducible refine w_c ?_)
    (with_reducible refine w_c ?_)
    (with_reducible refine w_p18 ?_)
    ((with_reducible refine w_I ?hc ?_); (case hc => walk_at "side"))
    (with_reducible refine w_I0 ?_)
    have e := q H1 sm
    rw [enc_dj] at e
    exact e
  | d ha =>
    rename_i a
    unfold R16 at ha
    refine w_ixTs (sm.sqT ht) (atI_of (v := .int a) (by decide) rfl) ?_
    (with_reducible refine w_op ?_)
    (with_reducible refine w_c ?_)
    (with_reducible refine w_c ?_)
    (with_reducible refine w_p22 ?_)
    ((with_reducible refine w_I ?hc ?_); (case hc => walk_at "side"))
    (with_reducible refine w_I0 ?_)
    (with_reducible refine w_name ?_)
    (with_reducible refine w_seq ?_)
    (with_reducible refine w_ifS ?_)
    (with_reducible refine w_test ?_)
    (with_reducible refine w_op ?_)
    (with_reducible refine w_cb ?_)
    (with_reducible refine w_cons ?_)
    ((with_reducible refine' w_var ?hv ?_); (case hv => exact rfl))
    (with_reducible refine w_nil ?_)
    refine w_lenTn 2 (sm.sqT ht) rfl ?_
    (with_reducible refine w_c ?_)
    (with_reducible refine w_eqI ?_)
    (with_reducible refine w_bl ?_)
    (refine w_decT ?hd ?_; (case hd => decide))
    (with_reducible refine w_ret ?_)
    ((with_reducible refine' w_var ?hv ?_); (case hv => exact rfl))
    have e := q H1 sm
    rw [enc_d] at e
    exact e
  | s ha =>
    rename_i a
    unfold R16 at ha
    refine w_ixTs (sm.sqT ht) (atI_of (v := .int a) (by decide) rfl) ?_
    (with_reducible refine w_op ?_)
    (with_reducible refine w_c ?_)
    (with_reducible refine w_c ?_)
    (with_reducible refine w_p22 ?_)
    ((with_reducible refine w_I ?hc ?_); (case hc => walk_at "side"))
    (with_reducible refine w_I0 ?_)
    (with_reducible refine w_name ?_)
    (with_reducible refine w_seq ?_)
    (with_reducible refine w_ifS ?_)
    (with_reducible refine w_test ?_)
    (with_reducible refine w_op ?_)
    (with_reducible refine w_cb ?_)
    (with_reducible refine w_cons ?_)
    ((with_reducible refine' w_var ?hv ?_); (case hv => exact rfl))
    (with_reducible refine w_nil ?_)
    refine w_lenTn 2 (sm.sqT ht) rfl ?_
    (with_reducible refine w_c ?_)
    (with_reducible refine w_eqI ?_)
    (with_reducible refine w_bl ?_)
    (refine w_decT ?hd ?_; (case hd => decide))
    (with_reducible refine w_ret ?_)
    ((with_reducible refine' w_var ?hv ?_); (case hv => exact rfl))
    have e := q H1 sm
    rw [enc_s] at e
    exact e
end
end K08


open PySem.W
namespace K08
theorem sc_with_sign : FnScope ["bits", "half"] ["bits", "half"] (defScope s_with_sign) := ⟨rfl, rfl, rfl, by decide +kernel, rfl, by decide +kernel, by decide +kernel⟩
theorem sc_immediate : FnScope ["kind", "word"] ["kind", "word"] (defScope s_immediate) := ⟨rfl, rfl, rfl, by decide +kernel, rfl, by decide +kernel, by decide +kernel⟩
theorem sc_decode : FnScope ["word", "number", "op", "operands", "shift", "kind", "found"] ["word"] (defScope s_decode) := ⟨rfl, rfl, rfl, by decide +kernel, rfl, by decide +kernel, by decide +kernel⟩
section
variable {P : Program} {w : World} {K : PySem.W.Frag} {mg : Str → Option Value} {base : Heap}
theorem ok_with_sign (Z : St1 K mg "_with_sign" s_with_sign ["bits", "half"]) : Cd P w K mg base 1 "_with_sign" (spI2 (fun _ h => 0 ≤ h ∧ h < 1000000) fun b h => .int (sg b h)) := by
  refine Z.cd sc_with_sign len_spI2 (fun f cdv A outer s H vs Q E hr h => ?_)
  obtain ⟨b, h, rfl, ⟨h0, h1⟩, q⟩ := h
  refine ⟨_, (pss_one (ps_ret (pe_ifExp (pt_cmpR op_ge (pv 0) (pv 1) (nomark _)) (pe_op op_sub (pv 0) (pe_op op_mul pe_int (pv 1))) (pv 0)))), ?_⟩
  (with_reducible refine w_ret ?_)
  (with_reducible refine w_if ?_)
  (with_reducible refine w_test ?_)
  (with_reducible refine w_op ?_)
  ((with_reducible refine' w_var ?hv ?_); (case hv => exact rfl))
  ((with_reducible refine' w_var ?hv ?_); (case hv => exact rfl))
  (with_reducible refine w_I0 ?_)
  (with_reducible refine w_bl ?_)
  refine w_dec (fun e => ?_) (fun e => ?_)
  · (with_reducible refine w_op ?_)
    ((with_reducible refine' w_var ?hv ?_); (case hv => exact rfl))
    (with_reducible refine w_op ?_)
    (with_reducible refine w_c ?_)
    ((with_reducible refine' w_var ?hv ?_); (case hv => exact rfl))
    ((with_reducible refine w_I ?hc ?_); (case hc => walk_at "side"))
    (with_reducible refine w_I0 ?_)
    simpa only [sg, if_pos e] using q
  · ((with_reducible refine' w_var ?hv ?_); (case hv => exact rfl))
    simpa only [sg, if_neg e] using q
def spImm : Sp := fun vs H Q _ => ∃ (c : Nat) (w : Int), vs = [.str ⟨#[c]⟩, .int w] ∧ Q (.int (imm c w)) H
theorem one_eq {c k : Nat} {x : Str} (hx : x.cps[0]? = some k) (hs : x = ⟨#[k]⟩) : ((⟨#[c]⟩ : Str) = x) ↔ c = k := by
  constructor
  · intro e
    have := congrArg (fun z : Str => z.cps[0]?) e
    rw [hx] at this
    exact Option.some.inj this
  · intro e
    rw [e, hs]
theorem ok_immediate {O F : Addr} (T : Env0 K w mg O F) (c_with_sign : Cd P w K mg base 1 "_with_sign" (spI2 (fun _ h => 0 ≤ h ∧ h < 1000000) fun b h => .int (sg b h))) (Z : St1 K mg "_immediate" s_immediate ["kind", "word"]) : Cd P w K mg base 2 "_immediate" spImm := by
  obtain ⟨g_OPS, g_FORMS, g_LOW_14, g_LOW_18, ops, rows⟩ := T
  refine Z.cd sc_immediate (fun vs H Q E h => by obtain ⟨c, x, rfl, _⟩ := h; rfl) (fun f cdv A outer s H vs Q E hr h => ?_)
  obtain ⟨c, x, rfl, q⟩ := h
  have e14 : Builtin.bitAnd x 16383 = x % 16384 := PySem.W.kbt_mask x 14
  have e18 : Builtin.bitAnd x 262143 = x % 262144 := PySem.W.kbt_mask x 18
  refine ⟨_, (pss_cons (ps_if (pt_cmpR op_eq (pv 0) pe_str (nomark _)) (pss_one (ps_ret (pe_cd c_with_sign hr (by first | decide | omega) (by rfl) (pa_cons (pe_op op_and (pv 1) (pe_gv (by rfl) g_LOW_14)) (pa_cons (pe_op op_pow pe_int pe_int) pa_nil))))) pss_nil)
      (pss_cons (ps_if (pt_cmpR op_eq (pv 0) pe_str (nomark _)) (pss_one (ps_ret (pe_cd c_with_sign hr (by first | decide | omega) (by rfl) (pa_cons (pe_op op_and (pv 1) (pe_gv (by rfl) g_LOW_18)) (pa_cons (pe_op op_pow pe_int pe_int) pa_nil))))) pss_nil)
      (pss_one (ps_ret (pe_op op_and (pv 1) (pe_gv (by rfl) g_LOW_18)))))), ?_⟩
  (with_reducible refine w_seq ?_)
  (with_reducible refine w_ifS ?_)
  (with_reducible refine w_test ?_)
  (with_reducible refine w_op ?_)
  ((with_reducible refine' w_var ?hv ?_); (case hv => exact rfl))
  (with_reducible refine w_c ?_)
  (with_reducible refine w_eqS ?_)
  (with_reducible refine w_bl ?_)
  refine w_dec (fun e => ?_) (fun e => ?_)
  · have e' := (one_eq (k := 105) rfl rfl).mp e
    (with_reducible refine w_ret ?_)
    (with_reducible refine w_call ?_)
    (with_reducible refine w_cons ?_)
    (with_reducible refine w_op ?_)
    ((with_reducible refine' w_var ?hv ?_); (case hv => exact rfl))
    (with_reducible refine w_c ?_)
    (with_reducible refine w_I0 ?_)
    (with_reducible refine w_cons ?_)
    (with_reducible refine w_op ?_)
    (with_reducible refine w_c ?_)
    (with_reducible refine w_c ?_)
    (with_reducible refine w_p13 ?_)
    (with_reducible refine w_nil ?_)
    ((with_reducible refine w_spI2 ?hc ?_); (case hc => walk_at "side"))
    rw [e14]
    simpa only [imm, if_pos e'] using q
  · have e' := fun z => e ((one_eq (k := 105) rfl rfl).mpr z)
    (with_reducible refine w_next ?_)
    (with_reducible refine w_seq ?_)
    (with_reducible refine w_ifS ?_)
    (with_reducible refine w_test ?_)
    (with_reducible refine w_op ?_)
    ((with_reducible refine' w_var ?hv ?_); (case hv => exact rfl))
    (with_reducible refine w_c ?_)
    (with_reducible refine w_eqS ?_)
    (with_reducible refine w_bl ?_)
    refine w_dec (fun e2 => ?_) (fun e2 => ?_)
    · have e2' := (one_eq (k := 106) rfl rfl).mp e2
      (with_reducible refine w_ret ?_)
      (with_reducible refine w_call ?_)
      (with_reducible refine w_cons ?_)
      (with_reducible refine w_op ?_)
      ((with_reducible refine' w_var ?hv ?_); (case hv => exact rfl))
      (with_reducible refine w_c ?_)
      (with_reducible refine w_I0 ?_)
      (with_reducible refine w_cons ?_)
      (with_reducible refine w_op ?_)
      (with_reducible refine w_c ?_)
      (with_reducible refine w_c ?_)
      (with_reducible refine w_p17 ?_)
      (with_reducible refine w_nil ?_)
      ((with_reducible refine w_spI2 ?hc ?_); (case hc => walk_at "side"))
      rw [e18]
      simpa only [imm, if_neg e', if_pos e2'] using q
    · have e2' := fun z => e2 ((one_eq (k := 106) rfl rfl).mpr z)
      (with_reducible refine w_next ?_)
      (with_reducible refine w_ret ?_)
      (with_reducible refine w_op ?_)
      ((with_reducible refine' w_var ?hv ?_); (case hv => exact rfl))
      (with_reducible refine w_c ?_)
      (with_reducible refine w_I0 ?_)
      rw [e18]
      simpa only [imm, if_neg e', if_neg e2'] using q
end
def DecOf (x : Int) (v : V) (H' : Hp) : Prop := (∃ (n : Nat) (op fm : Str) (xs : List Int) (t : Addr), Ins n op fm xs ∧ encW n fm xs = x ∧ v = .ref t ∧ H' t = some (.tup (insV op xs))) ∨ ((∀ n op fm xs, Ins n op fm xs → encW n fm xs ≠ x) ∧ v = .non)
def spDec : Sp := fun vs H Q _ => ∃ (x : Int), vs = [.int x] ∧ 0 ≤ x ∧ x < 4294967296 ∧ ∀ v H', Same H H' → DecOf x v H' → Q v H'
section
variable {P : Program} {w : World} {K : PySem.W.Frag} {mg : Str → Option Value} {base : Heap}
theorem ok_decode {O F : Addr} (T : Env0 K w mg O F) (b_len : mg "len" = none) (c_encode : Cd P w K mg base 1 "encode" (spEnc K)) (c_immediate : Cd P w K mg base 2 "_immediate" spImm) (Z : St1 K mg "decode" s_decode ["word"]) : Cd P w K mg base 3 "decode" spDec := by
  obtain ⟨g_OPS, g_FORMS, g_LOW_14, g_LOW_18, ops, rows⟩ := T
  refine Z.cd sc_decode (fun vs H Q E h => by obtain ⟨x, rfl, _⟩ := h; rfl) (fun f cdv A outer s H vs Q E hr h => ?_)
  obtain ⟨x, rfl, x0, x1, q⟩ := h
  have e26 : x / 2 ^ (26 : Int).toNat = x / 67108864 := rfl
  have lo : ((opsT.map (·.1)).map V.str).length = 38 := rfl
  refine ⟨_, (pss_cons (ps_set (i := 1) sc_decode.nd rfl (.inl rfl) (pe_op op_shr (pv 0) pe_int))
      (pss_cons (ps_if (pt_not (pt_chain op_le op_le pe_int (pv 1) (pe_callB call_lenQ (by rfl) b_len PySem.boot_len (pa_cons (pe_gv (by rfl) g_OPS) pa_nil)))) (pss_one (ps_ret pe_non)) pss_nil)
      (pss_cons (ps_set (i := 2) sc_decode.nd rfl (.inl rfl) (pe_ix ix_tup (pe_gv (by rfl) g_OPS) (pe_op op_sub (pv 1) pe_int) (fun _ _ => rfl)))
      (pss_cons (ps_set (i := 3) sc_decode.nd rfl (.inl rfl) (pe_lst pa_nil))
      (pss_cons (ps_set (i := 4) sc_decode.nd rfl (.inl rfl) pe_int)
      (Evl.pss_cut (ps_for PassesOwn.never rfl (pi_str (pe_ix ix_kdict (pe_gv (by rfl) g_FORMS) (pv 2) (fun _ _ => rfl))) (pg_name (i := 5) sc_decode.nd rfl (.inl rfl))
      (pss_one (ps_if (pt_cmpR op_inSQ (pv 5) pe_str rfl) (pss_cons (ps_expr (pe_bm PySem.F.plainAttrs_list PySem.F.slot_list_append PySem.F.type_list_append mt_append (pv 3) (pa_cons (pe_op op_and (pe_op op_shr (pv 0) (pv 4)) pe_int) pa_nil)))
      (pss_one (ps_aug (i := 4) sc_decode.nd rfl (.inl rfl) pe_int ip_sub))) (pss_one (ps_expr (pe_bm PySem.F.plainAttrs_list PySem.F.slot_list_append PySem.F.type_list_append mt_append (pv 3) (pa_cons (pe_cd c_immediate hr (by first | decide | omega) (by rfl) (pa_cons (pv 5) (pa_cons (pv 0) pa_nil))) pa_nil)))))))
      (pss_cons (ps_set (i := 6) sc_decode.nd rfl (.inl rfl) (pe_tup (pa_cons (pv 2) (StX.pa_star (pv 3) pa_nil))))
      (pss_one (ps_ret (pe_ifExp (pt_cmpR op_eq (pe_cd c_encode hr (by first | decide | omega) (by rfl) (pa_cons (pv 6) pa_nil)) (pv 0) (nomark _)) (pv 6) pe_non)))))))))), ?_⟩
  (with_reducible refine w_seq ?_)
  (with_reducible refine w_asg ?_)
  (with_reducible refine w_op ?_)
  ((with_reducible refine' w_var ?hv ?_); (case hv => exact rfl))
  (with_reducible refine w_c ?_)
  ((with_reducible refine w_I ?hc ?_); (case hc => walk_at "side"))
  (with_reducible refine w_name ?_)
  (with_reducible refine w_seq ?_)
  (with_reducible refine w_ifS ?_)
  (with_reducible refine w_notT ?_)
  (with_reducible refine w_test ?_)
  (with_reducible refine w_chain ?_)
  (with_reducible refine w_c ?_)
  ((with_reducible refine' w_var ?hv ?_); (case hv => exact rfl))
  (with_reducible refine w_I0 ?_)
  (with_reducible refine w_bl ?_)
  rw [e26]
  have none_of : (x / 67108864 < 1 ∨ 38 < x / 67108864) → ∀ n op fm xs, Ins n op fm xs → encW n fm xs ≠ x := fun hx n op fm xs hi e => by
    have z := hi.fits.enc (n := n)
    rw [e] at z
    have := hi.n38
    omega
  refine w_dec (fun e1 => ?_) (fun e1 => ?_)
  · (with_reducible refine w_cb ?_)
    (with_reducible refine w_cons ?_)
    (with_reducible refine w_c ?_)
    (with_reducible refine w_nil ?_)
    refine w_lenTs (ops.sq H) ?_
    (with_reducible refine w_I0 ?_)
    (with_reducible refine w_bl ?_)
    rw [lo]
    refine w_ndec (fun e2 => ?_) (fun e2 => ?_)
    · (with_reducible refine w_ret ?_)
      (with_reducible refine w_c ?_)
      exact q _ _ (Same.refl H) (.inr ⟨none_of (by omega), rfl⟩)
    · (with_reducible refine w_next ?_)
      (with_reducible refine w_seq ?_)
      (with_reducible refine w_asg ?_)
      (with_reducible refine w_op ?_)
      (with_reducible refine w_c ?_)
      (with_reducible refine w_op ?_)
      ((with_reducible refine' w_var ?hv ?_); (case hv => exact rfl))
      (with_reducible refine w_c ?_)
      (with_reducible refine w_I0 ?_)
      have hn : (x / 67108864 - 1).toNat < opsT.length := by show _ < 38; omega
      obtain ⟨op, fm, hop⟩ : ∃ op fm, opsT[(x / 67108864 - 1).toNat]? = some (op, fm) := ⟨_, _, List.getElem?_eq_getElem hn⟩
      have hfm := ops_forms _ (List.mem_of_getElem? hop)
      have hr0 := rows (op, fm) (List.mem_of_getElem? hop)
      have hft := fits_of hfm x
      obtain ⟨fl, f3, fb⟩ := hft.len
      have hsz : fm.cps.size ≤ 3 := by rw [fl]; exact f3
      refine w_ixTs (v := .str op) (ops.sq H) (atI_of (by omega) (by rw [List.getElem?_map, List.getElem?_map, hop]; rfl)) ?_
      (with_reducible refine w_name ?_)
      (with_reducible refine w_seq ?_)
      (with_reducible refine w_asg ?_)
      (with_reducible refine w_lst ?_)
      (with_reducible refine w_nil ?_)
      refine w_kLst (Nat.zero_le _) fun p H1 np sm hp => ?_
      (with_reducible refine w_name ?_)
      (with_reducible refine w_seq ?_)
      (with_reducible refine w_asg ?_)
      (with_reducible refine w_c ?_)
      (with_reducible refine w_name ?_)
      refine Evl.q_cut (M := fun σ' H' => Same H H' ∧ H' p = some (.lst ((fieldsOf fm x).map V.int)) ∧ ∃ v4 v5 v6 : Option V, σ' = [some (.int x), some (.int (x / 67108864)), some (.str op), some (.ref p), v4, v5, v6]) ?_ ?_
      · (with_reducible refine w_for ?_)
        (with_reducible refine w_iSt ?_)
        (with_reducible refine w_op ?_)
        (with_reducible refine w_c ?_)
        ((with_reducible refine' w_var ?hv ?_); (case hv => exact rfl))
        refine w_ixD hr0 ?_
        refine w_forS (fun i σ' H' => Same H H' ∧ H' p = some (.lst ((goD x (fm.cps.toList.take i)).1.map V.int)) ∧ ∃ v5 v6 : Option V, σ' = [some (.int x), some (.int (x / 67108864)), some (.str op), some (.ref p), some (.int (goD x (fm.cps.toList.take i)).2), v5, v6] ∧ 22 - 4 * (i : Int) ≤ (goD x (fm.cps.toList.take i)).2 ∧ (goD x (fm.cps.toList.take i)).1.length = i) ⟨sm, hp, none, none, rfl, by show (22 : Int) - 4 * 0 ≤ 22; decide, rfl⟩ ?_ ?_
        · rintro i c σ' H' hc ⟨sm', hp', v5, v6, rfl, lo', ll⟩
          have hil : i < fm.cps.size := (Array.getElem?_eq_some_iff.mp hc).1
          have hc' : fm.cps.toList[i]? = some c := by simpa using hc
          have st : goD x (fm.cps.toList.take (i + 1)) = stepD x (goD x (fm.cps.toList.take i)) c := by
            rw [take_more hc']; unfold goD; rw [List.foldl_append]; rfl
          generalize goD x (fm.cps.toList.take i) = s0 at *
          obtain ⟨ac, sh⟩ := s0
          simp only at lo' ll hp'
          have hi3 : i < 3 := by omega
          (with_reducible refine w_name ?_)
          (with_reducible refine w_ifS ?_)
          (with_reducible refine w_test ?_)
          (with_reducible refine w_op ?_)
          ((with_reducible refine' w_var ?hv ?_); (case hv => exact rfl))
          (with_reducible refine w_c ?_)
          (with_reducible refine w_inSg ?_)
          (with_reducible refine w_bl ?_)
          refine w_dec (fun e => ?_) (fun e => ?_)
          · have e' : c = 100 ∨ c = 115 := by simpa using (show c ∈ [100, 115] from e)
            have s1 : stepD x (ac, sh) c = (ac ++ [x / 2 ^ sh.toNat % 16], sh - 4) := if_pos e'
            rw [s1] at st
            (with_reducible refine w_seq ?_)
            (with_reducible refine w_drop ?_)
            (with_reducible refine w_bm ?_)
            ((with_reducible refine' w_var ?hv ?_); (case hv => exact rfl))
            ((with_reducible refine' w_tyL ?hh ?_); (case hh => assumption))
            (with_reducible refine w_cons ?_)
            (with_reducible refine w_op ?_)
            (with_reducible refine w_op ?_)
            ((with_reducible refine' w_var ?hv ?_); (case hv => exact rfl))
            ((with_reducible refine' w_var ?hv ?_); (case hv => exact rfl))
            ((with_reducible refine w_I ?hc ?_); (case hc => walk_at "side"))
            (with_reducible refine w_c ?_)
            (with_reducible refine w_I0 ?_)
            (with_reducible refine w_nil ?_)
            have eb : Builtin.bitAnd (x / 2 ^ sh.toNat) 15 = x / 2 ^ sh.toNat % 16 := PySem.W.kbt_mask _ 4
            refine w_append hp' (by rw [List.length_map]; exact small1000 (by omega)) fun H2 hp2 b2 => ?_
            ((with_reducible refine' w_aug ?hh ?_); (case hh => exact rfl))
            (with_reducible refine w_c ?_)
            (with_reducible refine w_ipI ?_)
            refine ⟨fun b o h => ?_, ?_, some (.str ⟨#[c]⟩), v6, ?_, ?_, ?_⟩
            · have hbp : b ≠ p := fun z => by rw [z, np] at h; cases h
              exact b2 b o hbp (sm' b o h)
            · rw [hp2, st, eb, List.map_append]; rfl
            · rw [st]; rfl
            · rw [st]; show 22 - 4 * ((i + 1 : Nat) : Int) ≤ sh - 4; omega
            · rw [st]; show (ac ++ [_]).length = i + 1; rw [List.length_append]; simp [ll]
          · have e' : ¬ (c = 100 ∨ c = 115) := fun z => e (show c ∈ [100, 115] by simpa using z)
            have s1 : stepD x (ac, sh) c = (ac ++ [imm c x], sh) := if_neg e'
            rw [s1] at st
            (with_reducible refine w_drop ?_)
            (with_reducible refine w_bm ?_)
            ((with_reducible refine' w_var ?hv ?_); (case hv => exact rfl))
            ((with_reducible refine' w_tyL ?hh ?_); (case hh => assumption))
            (with_reducible refine w_cons ?_)
            (with_reducible refine w_call ?_)
            (with_reducible refine w_cons ?_)
            ((with_reducible refine' w_var ?hv ?_); (case hv => exact rfl))
            (with_reducible refine w_cons ?_)
            ((with_reducible refine' w_var ?hv ?_); (case hv => exact rfl))
            (with_reducible refine w_nil ?_)
            refine ⟨c, x, rfl, ?_⟩
            (with_reducible refine w_nil ?_)
            refine w_append hp' (by rw [List.length_map]; exact small1000 (by omega)) fun H2 hp2 b2 => ?_
            skip
            refine ⟨fun b o h => ?_, ?_, some (.str ⟨#[c]⟩), v6, ?_, ?_, ?_⟩
            · have hbp : b ≠ p := fun z => by rw [z, np] at h; cases h
              exact b2 b o hbp (sm' b o h)
            · rw [hp2, st, List.map_append]; rfl
            · rw [st]; rfl
            · rw [st]; show 22 - 4 * ((i + 1 : Nat) : Int) ≤ sh; omega
            · rw [st]; show (ac ++ [_]).length = i + 1; rw [List.length_append]; simp [ll]
        · rintro σ' H' ⟨sm', hp', v5, v6, rfl, _⟩
          have e : fm.cps.toList.take fm.cps.size = fm.cps.toList := List.take_of_length_le (by simp)
          rw [e] at hp'
          refine ⟨sm', hp', _, _, _, rfl⟩
      · rintro σ' H' ⟨sm', hp', v4, v5, v6, rfl⟩
        (with_reducible refine w_seq ?_)
        (with_reducible refine w_asg ?_)
        (with_reducible refine w_tup ?_)
        (with_reducible refine w_cons ?_)
        ((with_reducible refine' w_var ?hv ?_); (case hv => exact rfl))
        (with_reducible refine w_star ?_)
        ((with_reducible refine' w_var ?hv ?_); (case hv => exact rfl))
        refine w_stR hp' ?_
        (with_reducible refine w_nil ?_)
        have hl : (fieldsOf fm x).length ≤ 3 := f3
        refine w_kTup (by simp only [List.length_append, List.length_map, List.length_cons, List.length_nil]; exact Nat.le_of_lt (small1000 (by omega))) fun t H2 nt st ht => ?_
        replace ht : H2 t = some (.tup (insV op (fieldsOf fm x))) := by simpa [insV] using ht
        (with_reducible refine w_name ?_)
        (with_reducible refine w_ret ?_)
        (with_reducible refine w_if ?_)
        (with_reducible refine w_test ?_)
        (with_reducible refine w_op ?_)
        (with_reducible refine w_call ?_)
        (with_reducible refine w_cons ?_)
        ((with_reducible refine' w_var ?hv ?_); (case hv => exact rfl))
        (with_reducible refine w_nil ?_)
        have hins : Ins (x / 67108864 - 1).toNat op fm (fieldsOf fm x) := ⟨hop, hft⟩
        refine ⟨t, _, op, fm, fieldsOf fm x, rfl, .of ht, hins, fun H3 s3 => ?_⟩
        ((with_reducible refine' w_var ?hv ?_); (case hv => exact rfl))
        (with_reducible refine w_eqI ?_)
        (with_reducible refine w_bl ?_)
        refine w_dec (fun e => ?_) (fun e => ?_)
        · ((with_reducible refine' w_var ?hv ?_); (case hv => exact rfl))
          exact q _ _ (sm'.trans (st.trans s3)) (.inl ⟨_, op, fm, _, t, hins, e, rfl, s3 _ _ ht⟩)
        · (with_reducible refine w_c ?_)
          refine q _ _ (sm'.trans (st.trans s3)) (.inr ⟨fun n op' fm' xs hi he => e ?_, rfl⟩)
          have z := hi.fits.enc (n := n)
          rw [he] at z
          have en : (x / 67108864 - 1).toNat = n := by omega
          have q2 := Option.some.inj (hi.at_.symm.trans (en ▸ hop))
          cases q2
          rw [en, z.1]
          exact he
  · (with_reducible refine w_bl ?_)
    (with_reducible refine w_nF ?_)
    (with_reducible refine w_ret ?_)
    (with_reducible refine w_c ?_)
    exact q _ _ (Same.refl H) (.inr ⟨none_of (by omega), rfl⟩)
end
end K08


open PySem.W
namespace K08
open TL
local macro_rules | `(tactic| walk_at "w1") => `(tactic| first
  | (with_reducible refine w_isiS ?_)
  | (with_reducible refine w_isS ?_))
theorem sc_is_number : FnScope ["value"] ["value"] (defScope s_is_number) := ⟨rfl, rfl, rfl, by decide +kernel, rfl, by decide +kernel, by decide +kernel⟩
theorem sc_is_word : FnScope ["value"] ["value"] (defScope s_is_word) := ⟨rfl, rfl, rfl, by decide +kernel, rfl, by decide +kernel, by decide +kernel⟩
theorem sc_is_byte : FnScope ["value"] ["value"] (defScope s_is_byte) := ⟨rfl, rfl, rfl, by decide +kernel, rfl, by decide +kernel, by decide +kernel⟩
theorem sc_is_row : FnScope ["value", "count"] ["value", "count"] (defScope s_is_row) := ⟨rfl, rfl, rfl, by decide +kernel, rfl, by decide +kernel, by decide +kernel⟩
theorem sc_is_operand : FnScope ["kind", "value", "low", "high"] ["kind", "value"] (defScope s_is_operand) := ⟨rfl, rfl, rfl, by decide +kernel, rfl, by decide +kernel, by decide +kernel⟩
theorem sc_is_name : FnScope ["value", "sign"] ["value"] (defScope s_is_name) := ⟨rfl, rfl, rfl, by decide +kernel, rfl, by decide +kernel, by decide +kernel⟩
def spIsNum : Sp := fun vs H Q _ => ∃ i : Int, vs = [.int i] ∧ Q (.bl true) H
def inR (a b i : Int) : Bool := decide (a ≤ i) && decide (i ≤ b)
theorem inR_t {a b i : Int} (h : a ≤ i) : inR a b i = decide (i ≤ b) := by unfold inR; rw [decide_eq_true h]; rfl
theorem inR_f {a b i : Int} (h : ¬ a ≤ i) : inR a b i = false := by unfold inR; rw [decide_eq_false h]; rfl
def wOk (i : Int) : Bool := inR 0 4294967295 i
def byOk (i : Int) : Bool := inR 0 255 i
def spIsW : Sp := fun vs H Q _ => ∃ i : Int, vs = [.int i] ∧ Q (.bl (wOk i)) H
def spIsB : Sp := fun vs H Q _ => ∃ i : Int, vs = [.int i] ∧ Q (.bl (byOk i)) H
def spIsRow : Sp := fun vs H Q _ => ∃ (t : Addr) (xs : List V) (n : Int), vs = [.ref t, .int n] ∧ H t = some (.tup xs) ∧ Q (.bl (decide ((xs.length : Int) = n))) H
/-- a name, by the text's own look -/
def lowA : List Nat := ("abcdefghijklmnopqrstuvwxyz" : Str).cps.toList
def nameA : List Nat := ("abcdefghijklmnopqrstuvwxyz0123456789_" : Str).cps.toList
def nameOk (x : Str) : Bool := decide (1 ≤ x.length ∧ x.length ≤ 30) && (match (TL.tl x).head? with | some c => decide (c ∈ lowA) | none => false) && (TL.tl x).all fun c => decide (c ∈ nameA)
def spName : Sp := fun vs H Q _ => ∃ x : Str, vs = [.str x] ∧ x.length ≤ 100000 ∧ ∀ H', Same H H' → Q (.bl (nameOk x)) H'
def bnd (c : Nat) : Int × Int := if c = 100 ∨ c = 115 then (0, 15) else if c = 105 then (-8192, 8191) else if c = 106 then (-131072, 131071) else (0, 262143)
def kinds : List Nat := [100, 115, 105, 106, 117]
def spIsOp : Sp := fun vs H Q _ => ∃ (c : Nat) (i : Int), vs = [.str (SS [c]), .int i] ∧ c ∈ kinds ∧ Q (.bl (inR (bnd c).1 (bnd c).2 i)) H
section
variable {P : Program} {w : World} {K : PySem.W.Frag} {mg : Str → Option Value} {base : Heap}
theorem ok_is_number (b_isinstance : mg "isinstance" = none) (b_int : mg "int" = none) (b_bool : mg "bool" = none) (Z : St1 K mg "is_number" s_is_number ["value"]) : Cd P w K mg base 1 "is_number" spIsNum := by
  refine Z.cd sc_is_number (fun vs H Q E h => by obtain ⟨o, rfl, _⟩ := h; rfl) (fun f cdv A outer s H vs Q E hr h => ?_)
  obtain ⟨i, rfl, q⟩ := h
  refine ⟨_, (pss_one (ps_ret (pe_and (pe_callB call_isi (by rfl) b_isinstance (by decide +kernel) (pa_cons (pv 0) (pa_cons (pe_bltn (v := .ty "int") (by rfl) b_int (by decide +kernel) rfl) pa_nil))) (pe_one (pe_not (pe_callB call_isi (by rfl) b_isinstance (by decide +kernel) (pa_cons (pv 0) (pa_cons (pe_bltn (v := .ty "bool") (by rfl) b_bool (by decide +kernel) rfl) pa_nil)))))))), ?_⟩
  (with_reducible refine w_ret ?_)
  (with_reducible refine w_andV ?_)
  (with_reducible refine w_cb ?_)
  (with_reducible refine w_cons ?_)
  ((with_reducible refine' w_var ?hv ?_); (case hv => exact rfl))
  (with_reducible refine w_cons ?_)
  (with_reducible refine w_c ?_)
  (with_reducible refine w_nil ?_)
  (with_reducible refine w_isiInt ?_)
  (with_reducible refine w_bl ?_)
  (with_reducible refine w_itT ?_)
  (with_reducible refine w_notV ?_)
  (with_reducible refine w_cb ?_)
  (with_reducible refine w_cons ?_)
  ((with_reducible refine' w_var ?hv ?_); (case hv => exact rfl))
  (with_reducible refine w_cons ?_)
  (with_reducible refine w_c ?_)
  (with_reducible refine w_nil ?_)
  (with_reducible refine w_isiIntB ?_)
  (with_reducible refine w_bl ?_)
  exact q
theorem ok_is_word (g_MASK : GV mg "MASK" (.int 4294967295)) (c_is_number : Cd P w K mg base 1 "is_number" spIsNum) (Z : St1 K mg "is_word" s_is_word ["value"]) : Cd P w K mg base 2 "is_word" spIsW := by
  refine Z.cd sc_is_word (fun vs H Q E h => by obtain ⟨o, rfl, _⟩ := h; rfl) (fun f cdv A outer s H vs Q E hr h => ?_)
  obtain ⟨i, rfl, q⟩ := h
  refine ⟨_, (pss_one (ps_ret (pe_and (pe_cd c_is_number hr (by first | decide | omega) (by rfl) (pa_cons (pv 0) pa_nil)) (pe_one (pe_chain op_le op_le pe_int (pv 0) (pe_gv (by rfl) g_MASK)))))), ?_⟩
  (with_reducible refine w_ret ?_)
  (with_reducible refine w_andV ?_)
  (with_reducible refine w_call ?_)
  (with_reducible refine w_cons ?_)
  ((with_reducible refine' w_var ?hv ?_); (case hv => exact rfl))
  (with_reducible refine w_nil ?_)
  refine ⟨i, rfl, ?_⟩
  (with_reducible refine w_bl ?_)
  (with_reducible refine w_itT ?_)
  (with_reducible refine w_chain ?_)
  (with_reducible refine w_c ?_)
  ((with_reducible refine' w_var ?hv ?_); (case hv => exact rfl))
  (with_reducible refine w_I0 ?_)
  (with_reducible refine w_bl ?_)
  refine w_dec (fun e1 => ?_) (fun e1 => ?_)
  · unfold wOk at q
    rw [inR_t e1] at q
    (with_reducible refine w_c ?_)
    (with_reducible refine w_I0 ?_)
    exact q
  · unfold wOk at q
    rw [inR_f e1] at q
    skip
    exact q
theorem ok_is_byte (c_is_number : Cd P w K mg base 1 "is_number" spIsNum) (Z : St1 K mg "is_byte" s_is_byte ["value"]) : Cd P w K mg base 2 "is_byte" spIsB := by
  refine Z.cd sc_is_byte (fun vs H Q E h => by obtain ⟨o, rfl, _⟩ := h; rfl) (fun f cdv A outer s H vs Q E hr h => ?_)
  obtain ⟨i, rfl, q⟩ := h
  refine ⟨_, (pss_one (ps_ret (pe_and (pe_cd c_is_number hr (by first | decide | omega) (by rfl) (pa_cons (pv 0) pa_nil)) (pe_one (pe_chain op_le op_le pe_int (pv 0) pe_int))))), ?_⟩
  (with_reducible refine w_ret ?_)
  (with_reducible refine w_andV ?_)
  (with_reducible refine w_call ?_)
  (with_reducible refine w_cons ?_)
  ((with_reducible refine' w_var ?hv ?_); (case hv => exact rfl))
  (with_reducible refine w_nil ?_)
  refine ⟨i, rfl, ?_⟩
  (with_reducible refine w_bl ?_)
  (with_reducible refine w_itT ?_)
  (with_reducible refine w_chain ?_)
  (with_reducible refine w_c ?_)
  ((with_reducible refine' w_var ?hv ?_); (case hv => exact rfl))
  (with_reducible refine w_I0 ?_)
  (with_reducible refine w_bl ?_)
  refine w_dec (fun e1 => ?_) (fun e1 => ?_)
  · unfold byOk at q
    rw [inR_t e1] at q
    (with_reducible refine w_c ?_)
    (with_reducible refine w_I0 ?_)
    exact q
  · unfold byOk at q
    rw [inR_f e1] at q
    skip
    exact q
theorem ok_is_row (b_isinstance : mg "isinstance" = none) (b_tuple : mg "tuple" = none) (b_len : mg "len" = none) (Z : St1 K mg "is_row" s_is_row ["value", "count"]) : Cd P w K mg base 1 "is_row" spIsRow := by
  refine Z.cd sc_is_row (fun vs H Q E h => by obtain ⟨t, xs, n, rfl, _⟩ := h; rfl) (fun f cdv A outer s H vs Q E hr h => ?_)
  obtain ⟨t, xs, n, rfl, ht, q⟩ := h
  refine ⟨_, (pss_one (ps_ret (pe_and (pe_callB call_isi (by rfl) b_isinstance (by decide +kernel) (pa_cons (pv 0) (pa_cons (pe_bltn (v := .ty "tuple") (by rfl) b_tuple (by decide +kernel) rfl) pa_nil))) (pe_one (pe_cmpR op_eq (pe_callB call_lenQ (by rfl) b_len PySem.boot_len (pa_cons (pv 0) pa_nil)) (pv 1) (nomark _)))))), ?_⟩
  (with_reducible refine w_ret ?_)
  (with_reducible refine w_andV ?_)
  (with_reducible refine w_cb ?_)
  (with_reducible refine w_cons ?_)
  ((with_reducible refine' w_var ?hv ?_); (case hv => exact rfl))
  (with_reducible refine w_cons ?_)
  (with_reducible refine w_c ?_)
  (with_reducible refine w_nil ?_)
  refine w_isiTT ht ?_
  (with_reducible refine w_bl ?_)
  (with_reducible refine w_itT ?_)
  (with_reducible refine w_op ?_)
  (with_reducible refine w_cb ?_)
  (with_reducible refine w_cons ?_)
  ((with_reducible refine' w_var ?hv ?_); (case hv => exact rfl))
  (with_reducible refine w_nil ?_)
  refine w_lenTs (.of ht) ?_
  ((with_reducible refine' w_var ?hv ?_); (case hv => exact rfl))
  (with_reducible refine w_eqI ?_)
  exact q
structure BndAt (K : PySem.W.Frag) (w : World) (mg : Str → Option Value) (B : Addr) : Prop where
  g : GV mg "BOUNDS" (.ref B)
  rows : ∀ c ∈ kinds, ∃ t, KDct K w B (SS [c]) (.ref t) ∧ WTup K t [.int (bnd c).1, .int (bnd c).2]
theorem ok_is_operand {B : Addr} (T : BndAt K w mg B) (c_is_number : Cd P w K mg base 1 "is_number" spIsNum) (Z : St1 K mg "is_operand" s_is_operand ["kind", "value"]) : Cd P w K mg base 2 "is_operand" spIsOp := by
  obtain ⟨g_BOUNDS, rows⟩ := T
  refine Z.cd sc_is_operand (fun vs H Q E h => by obtain ⟨c, o, rfl, _⟩ := h; rfl) (fun f cdv A outer s H vs Q E hr h => ?_)
  obtain ⟨c, i, rfl, hc, q⟩ := h
  refine ⟨_, (pss_cons (ps_if (pt_not (pt_val (pe_cd c_is_number hr (by first | decide | omega) (by rfl) (pa_cons (pv 1) pa_nil)))) (pss_one (ps_ret pe_bl)) pss_nil)
      (pss_cons (ps_asg (pe_ix ix_kdict (pe_gv (by rfl) g_BOUNDS) (pv 0) (fun _ _ => rfl)) (pg_tup rfl (pgs_cons (pg_name (i := 2) sc_is_operand.nd rfl (.inl rfl)) (pgs_cons (pg_name (i := 3) sc_is_operand.nd rfl (.inl rfl)) pgs_nil))))
      (pss_one (ps_ret (pe_chain op_le op_le (pv 2) (pv 1) (pv 3)))))), ?_⟩
  obtain ⟨t, h1, h2⟩ := rows c hc
  (with_reducible refine w_seq ?_)
  (with_reducible refine w_ifS ?_)
  (with_reducible refine w_notT ?_)
  (with_reducible refine w_B ?_)
  (with_reducible refine w_call ?_)
  (with_reducible refine w_cons ?_)
  ((with_reducible refine' w_var ?hv ?_); (case hv => exact rfl))
  (with_reducible refine w_nil ?_)
  refine ⟨i, rfl, ?_⟩
  (with_reducible refine w_bl ?_)
  (with_reducible refine w_nT ?_)
  (with_reducible refine w_next ?_)
  (with_reducible refine w_seq ?_)
  (with_reducible refine w_asg ?_)
  (with_reducible refine w_op ?_)
  (with_reducible refine w_c ?_)
  ((with_reducible refine' w_var ?hv ?_); (case hv => exact rfl))
  refine w_ixD h1 ?_
  skip
  refine w_gTupS (h2.sq H) rfl ?_
  (with_reducible refine w_gCons ?_)
  (with_reducible refine w_name ?_)
  (with_reducible refine w_gCons ?_)
  (with_reducible refine w_name ?_)
  (with_reducible refine w_gNil ?_)
  (with_reducible refine w_ret ?_)
  (with_reducible refine w_chain ?_)
  ((with_reducible refine' w_var ?hv ?_); (case hv => exact rfl))
  ((with_reducible refine' w_var ?hv ?_); (case hv => exact rfl))
  (with_reducible refine w_I0 ?_)
  (with_reducible refine w_bl ?_)
  refine w_dec (fun e1 => ?_) (fun e1 => ?_)
  · rw [inR_t e1] at q
    ((with_reducible refine' w_var ?hv ?_); (case hv => exact rfl))
    (with_reducible refine w_I0 ?_)
    exact q
  · rw [inR_f e1] at q
    skip
    exact q
theorem ok_is_name (b_isinstance : mg "isinstance" = none) (b_str : mg "str" = none) (b_len : mg "len" = none) (b_all : mg "all" = none) (g_LETTERS : GV mg "LETTERS" (.str "abcdefghijklmnopqrstuvwxyz")) (g_NAME_CHARACTERS : GV mg "NAME_CHARACTERS" (.str "abcdefghijklmnopqrstuvwxyz0123456789_")) (Z : St1 K mg "is_name" s_is_name ["value"]) : Cd P w K mg base 1 "is_name" spName := by
  refine Z.cd sc_is_name (fun vs H Q E h => by obtain ⟨x, rfl, _⟩ := h; rfl) (fun f cdv A outer s H vs Q E hr h => ?_)
  obtain ⟨x, rfl, hl, q⟩ := h
  refine ⟨_, (pss_cons (ps_if (PW.pt (pw_or (pt_not (pt_val (pe_callB call_isi (by rfl) b_isinstance (by decide +kernel) (pa_cons (pv 0) (pa_cons (pe_bltn (v := .ty "str") (by rfl) b_str (by decide +kernel) rfl) pa_nil))))) (pw_or1 (pt_not (pt_chain op_le op_le pe_int (pe_callB call_lenSQ (by rfl) b_len PySem.boot_len (pa_cons (pv 0) pa_nil)) pe_int))))) (pss_one (ps_ret pe_bl)) pss_nil)
      (pss_one (ps_ret (pe_and (pe_cmpR op_inSQ (pe_ix ix_str (pv 0) pe_int (fun _ _ => rfl)) (pe_gv (by rfl) g_LETTERS) rfl) (pe_one (pe_callB (cr_all rfl) (by rfl) b_all (by decide +kernel) (pa_cons (pe_lc (own := [("sign", 1)]) rfl sc_is_name.nd (pi_str (pv 0)) (blkOk_by (own := [("sign", 1)]) (N := ["value", "sign"]) (sc := (defScope s_is_name)) (by decide +kernel)) (fun _ _ _ _ _ => (pg_name (i := 1) sc_is_name.nd rfl (.inl rfl))) (fun _ _ _ _ _ => pts_nil) (fun _ _ _ _ _ => (pe_cmpR op_inSQ (pv 1) (pe_gv (by rfl) g_NAME_CHARACTERS) rfl))) pa_nil))))))), ?_⟩
  (with_reducible refine w_seq ?_)
  (with_reducible refine w_ifS ?_)
  (with_reducible refine w_orT ?_)
  (with_reducible refine w_notT ?_)
  (with_reducible refine w_B ?_)
  (with_reducible refine w_cb ?_)
  (with_reducible refine w_cons ?_)
  ((with_reducible refine' w_var ?hv ?_); (case hv => exact rfl))
  (with_reducible refine w_cons ?_)
  (with_reducible refine w_c ?_)
  (with_reducible refine w_nil ?_)
  (with_reducible refine w_isiS ?_)
  (with_reducible refine w_bl ?_)
  (with_reducible refine w_nT ?_)
  (with_reducible refine w_notT ?_)
  (with_reducible refine w_test ?_)
  (with_reducible refine w_chain ?_)
  (with_reducible refine w_c ?_)
  (with_reducible refine w_cb ?_)
  (with_reducible refine w_cons ?_)
  ((with_reducible refine' w_var ?hv ?_); (case hv => exact rfl))
  (with_reducible refine w_nil ?_)
  refine w_lenSQ (Nat.le_trans hl (by decide)) ?_
  (with_reducible refine w_I0 ?_)
  (with_reducible refine w_bl ?_)
  have no : ¬ (1 ≤ x.length ∧ x.length ≤ 30) → Q (.bl false) H := fun e => by
    have := q H (Same.refl H)
    unfold nameOk at this
    rw [decide_eq_false e] at this
    exact this
  refine w_dec (fun e1 => ?_) (fun e1 => ?_)
  · (with_reducible refine w_c ?_)
    (with_reducible refine w_I0 ?_)
    (with_reducible refine w_bl ?_)
    refine w_ndec (fun e2 => ?_) (fun e2 => ?_)
    · (with_reducible refine w_ret ?_)
      (with_reducible refine w_c ?_)
      exact no (by omega)
    · (with_reducible refine w_next ?_)
      (with_reducible refine w_ret ?_)
      (with_reducible refine w_andV ?_)
      (with_reducible refine w_op ?_)
      (with_reducible refine w_op ?_)
      ((with_reducible refine' w_var ?hv ?_); (case hv => exact rfl))
      (with_reducible refine w_c ?_)
      obtain ⟨c, r, ex⟩ : ∃ c r, TL.tl x = c :: r := by
        cases z : TL.tl x with
        | nil => rw [TL.len_tl, z] at e1; simp at e1
        | cons c r => exact ⟨c, r, rfl⟩
      refine ⟨x, 0, c, rfl, rfl, Nat.le_trans hl (by decide), (by show atI (TL.tl x) 0 = some c; rw [ex]; have z := atI_nat (show (c :: r)[0]? = some c from rfl); exact z), ?_⟩
      (with_reducible refine w_c ?_)
      (with_reducible refine w_inSg ?_)
      (with_reducible refine w_bl ?_)
      have qc : decide (c ∈ lowA) = true → ∀ H', Same H H' → Q (.bl ((TL.tl x).all fun c => decide (c ∈ nameA))) H' := fun e3 H' s' => by
        have := q H' s'
        unfold nameOk at this
        rw [decide_eq_true (show 1 ≤ x.length ∧ x.length ≤ 30 by omega), Bool.true_and, ex, List.head?_cons] at this
        simp only [e3, Bool.true_and] at this
        rw [ex]
        exact this
      refine w_dec (fun e3 => ?_) (fun e3 => ?_)
      · (with_reducible refine w_cb ?_)
        (with_reducible refine w_cons ?_)
        (with_reducible refine w_lc ?_)
        (with_reducible refine w_iSt ?_)
        ((with_reducible refine' w_var ?hv ?_); (case hv => exact rfl))
        have hsz : x.cps.size ≤ 100000 := hl
        refine w_lcS (fun D i H' => H D = none ∧ Same H H' ∧ H' D = some (.lst ((((TL.tl x).take i).map fun c => decide (c ∈ nameA)).map V.bl))) (fun D nD => ⟨nD, Same.new nD, upd_same⟩) (fun D i c' H' hc h => ?_) (fun D H' nD h => ?_)
        · obtain ⟨nD, s1, hD⟩ := h
          have hil : i < x.cps.size := (Array.getElem?_eq_some_iff.mp hc).1
          have hc' : (TL.tl x)[i]? = some c' := by simpa using hc
          (with_reducible refine w_name ?_)
          refine ⟨rfl, ?_⟩
          (with_reducible refine w_yes ?_)
          (with_reducible refine w_itT ?_)
          (with_reducible refine w_op ?_)
          ((with_reducible refine' w_var ?hv ?_); (case hv => exact rfl))
          (with_reducible refine w_c ?_)
          (with_reducible refine w_inSg ?_)
          refine ⟨_, hD, by rw [List.length_map, List.length_map, List.length_take]; exact Nat.lt_of_le_of_lt (show _ ≤ 100000 by omega) (by decide), nD, fun y o hy => ?_, ?_⟩
          · rw [upd_ne (ne_of_none hy nD)]; exact s1 _ _ hy
          · rw [take_more hc', List.map_append, List.map_append]; exact upd_same
        · obtain ⟨_, s1, hD⟩ := h
          rw [List.take_of_length_le (show (TL.tl x).length ≤ x.cps.size by simp)] at hD
          (with_reducible refine w_nil ?_)
          refine w_allB hD ?_
          rw [List.all_map]
          skip
          exact qc (decide_eq_true e3) H' s1
      · skip
        have := q H (Same.refl H)
        unfold nameOk at this
        rw [decide_eq_true (show 1 ≤ x.length ∧ x.length ≤ 30 by omega), Bool.true_and, ex, List.head?_cons] at this
        simp only [decide_eq_false (show ¬ c ∈ lowA from e3), Bool.false_and] at this
        exact this
  · (with_reducible refine w_bl ?_)
    (with_reducible refine w_nF ?_)
    (with_reducible refine w_ret ?_)
    (with_reducible refine w_c ?_)
    exact no (by omega)
end
end K08


open PySem.W
namespace K08
open TL
def Al {α : Type} (R : V → α → Prop) (vs : List V) (l : List α) : Prop := vs.length = l.length ∧ ∀ (i : Nat) (v : V) (g : α), vs[i]? = some v → l[i]? = some g → R v g
structure Seg where
  ad : Int
  vs : List Int
  wr : Bool
  ex : Bool
structure Im where
  sg : List Seg
  en : Int
  sy : List (Int × Str)
def SegAt (H : Hp) (v : V) (g : Seg) : Prop := ∃ t tv : Addr, v = .ref t ∧ H t = some (.tup [.int g.ad, .ref tv, .bl g.wr, .bl g.ex]) ∧ H tv = some (.tup (g.vs.map V.int))
def SymAt (H : Hp) (v : V) (p : Int × Str) : Prop := ∃ t : Addr, v = .ref t ∧ H t = some (.tup [.int p.1, .str p.2])
def PrAt (H : Hp) (v : V) (p : Int × Int) : Prop := ∃ t : Addr, v = .ref t ∧ H t = some (.tup [.int p.1, .int p.2])
def ImAt (H : Hp) (t : Addr) (im : Im) : Prop := ∃ (ts ty : Addr) (vs ws : List V), H t = some (.tup [.ref ts, .int im.en, .ref ty]) ∧ H ts = some (.tup vs) ∧ H ty = some (.tup ws) ∧ Al (SegAt H) vs im.sg ∧ Al (SymAt H) ws im.sy
theorem Al.imp {α : Type} {R R' : V → α → Prop} {vs : List V} {l : List α} (h : Al R vs l) (f : ∀ v g, R v g → R' v g) : Al R' vs l := ⟨h.1, fun i v g a b => f v g (h.2 i v g a b)⟩
theorem SegAt.tk {H H' : Hp} {v : V} {g : Seg} (h : SegAt H v g) (s : TK H H') : SegAt H' v g := by
  obtain ⟨t, tv, e, a, b⟩ := h
  exact ⟨t, tv, e, s _ _ a, s _ _ b⟩
theorem SymAt.tk {H H' : Hp} {v : V} {g : Int × Str} (h : SymAt H v g) (s : TK H H') : SymAt H' v g := by
  obtain ⟨t, e, a⟩ := h
  exact ⟨t, e, s _ _ a⟩
theorem PrAt.tk {H H' : Hp} {v : V} {g : Int × Int} (h : PrAt H v g) (s : TK H H') : PrAt H' v g := by
  obtain ⟨t, e, a⟩ := h
  exact ⟨t, e, s _ _ a⟩
def LcAt (H : Hp) (ys : List V) (D : Addr) (i : Nat) (H' : Hp) : Prop := H D = none ∧ Same H H' ∧ H' D = some (.lst (ys.take i))
theorem LcAt.start {H : Hp} {ys : List V} : ∀ D, H D = none → LcAt H ys D 0 (upd H D (.lst [])) := fun D nD => ⟨nD, Same.new nD, upd_same⟩
theorem LcAt.fin {H H' H4 : Hp} {ys : List V} {D : Addr} {i : Nat} {y : V} (h : LcAt H ys D i H') (hy : ys[i]? = some y) (hz : ys.length < sizeLine) (s : Same H' H4) : ∃ acc, H4 D = some (.lst acc) ∧ acc.length < sizeLine ∧ LcAt H ys D (i + 1) (upd H4 D (.lst (acc ++ [y]))) := by
  obtain ⟨nD, sm, hD⟩ := h
  refine ⟨_, s _ _ hD, Nat.lt_of_le_of_lt (by rw [List.length_take]; exact Nat.min_le_right _ _) hz, nD, fun x o hx => ?_, ?_⟩
  · rw [upd_ne (ne_of_none hx nD)]
    exact s _ _ (sm _ _ hx)
  · rw [take_more hy]
    exact upd_same
theorem LcAt.all {H H' : Hp} {ys : List V} {D : Addr} {n : Nat} (h : LcAt H ys D n H') (e : n = ys.length) : Same H H' ∧ H' D = some (.lst ys) := by
  obtain ⟨_, sm, hD⟩ := h
  rw [e, List.take_length] at hD
  exact ⟨sm, hD⟩
theorem big1 {n : Nat} (h : n ≤ 1000000) : n < sizeLine := Nat.lt_of_le_of_lt h (by decide)
theorem mapI {α : Type} {l : List α} {f : α → V} {i : Nat} {g : α} (h : l[i]? = some g) : (l.map f)[i]? = some (f g) := by rw [List.getElem?_map, h]; rfl
theorem Al.at {α : Type} {R : V → α → Prop} {vs : List V} {l : List α} (h : Al R vs l) {i : Nat} {v : V} (hv : vs[i]? = some v) : ∃ g, l[i]? = some g ∧ R v g := by
  have hi : i < vs.length := (List.getElem?_eq_some_iff.mp hv).1
  have hl : i < l.length := by rw [← h.1]; exact hi
  exact ⟨l[i], List.getElem?_eq_getElem hl, h.2 i v _ hv (List.getElem?_eq_getElem hl)⟩
theorem w_lcZTm {K : PySem.W.Frag} {g : TG} {tt : TT} {te : TE} {vs : List Nat} {σ : L2.St} {H : Hp} {Q : VK} {a b : Addr} (xs ys : List V) (n : Nat) (Pv : Addr → Nat → Hp → Prop) (hx : SqT K H a xs) (hy : SqT K H b ys) (e : n = min xs.length ys.length) (h0 : ∀ D, H D = none → Pv D 0 (upd H D (.lst []))) (hq : ∀ D i H, Pv D i H → SqT K H a xs ∧ SqT K H b ys)
    (hs : ∀ D i x y T H H', xs[i]? = some x → ys[i]? = some y → Pv D i H → H T = none → Same H H' → H' T = some (.tup [x, y]) → g (.ref T) (wipe σ vs) H' fun σ2 H2 => wipe σ2 vs = wipe σ vs ∧ tt σ2 H2 fun b H3 =>
      if b = true then te σ2 H3 fun y H4 => ∃ acc, H4 D = some (.lst acc) ∧ acc.length < sizeLine ∧ Pv D (i + 1) (upd H4 D (.lst (acc ++ [y]))) else Pv D (i + 1) H3) (hd : ∀ D H', H D = none → Pv D n H' → Q (.ref D) H') : kZA K (kLc g tt te vs σ Q) [.ref a, .ref b] H := by
  refine ⟨a, b, xs, ys, rfl, .inr ⟨hx, hy, fun D nD => ⟨fun i m H => m = n - i ∧ i ≤ n ∧ Pv D i H, ⟨n, by simp, Nat.zero_le _, h0 D nD⟩, ?_⟩⟩⟩
  rintro i m H' ⟨rfl, hi, p⟩
  obtain ⟨qx, qy⟩ := hq D i H' p
  by_cases hlt : i < n
  · refine .inr ⟨⟨xs, ys, xs[i]'(by omega), ys[i]'(by omega), qx, qy, List.getElem?_eq_getElem _, List.getElem?_eq_getElem _⟩, Pv D (i + 1), fun H2 p' => ⟨n - (i + 1), by omega, rfl, hlt, p'⟩, fun v H2 y => ?_⟩
    obtain ⟨T, x, y, rfl, nT, rfl, hx', hy'⟩ := y
    exact hs D i x y T H' _ (hx' xs qx) (hy' ys qy) p nT (Same.new nT) upd_same
  · have e' : i = n := by omega
    subst e'
    exact .inl ⟨⟨xs, ys, qx, qy, by omega⟩, hd D H' nD p⟩
theorem w_slLL {K : PySem.W.Frag} {a : Addr} {xs : List V} {lo hi : Option Int} {H : Hp} {Q : VK} (h : SqL K H a xs) (q : ∀ p H', H p = none → Same H H' → H' p = some (.lst (cutV xs lo hi)) → Q (.ref p) H') : rSlL K (.ref a) lo hi H Q :=
  ⟨a, xs, rfl, h, fun p np => q p _ np (Same.new np) upd_same⟩
theorem cut_tail (xs : List V) : cutV xs (some 1) none = xs.tail := by
  unfold cutV HT.sIx
  cases xs with
  | nil => simp
  | cons x xs =>
    simp only [List.length_cons]
    rw [if_neg (by omega)]
    have : min (1 : Int).toNat (xs.length + 1) = 1 := by
      have : (1 : Int).toNat = 1 := rfl
      omega
    rw [this]
    simp
theorem w_isBl {a b : Bool} {H : Hp} {Q : VK} (q : Q (.bl (decide (a = b))) H) : rIsB (.bl a) (.bl b) H Q := ⟨a, b, rfl, rfl, q⟩
theorem w_sum {K : PySem.W.Frag} {a : Addr} (ns : List Int) {H : Hp} {Q : VK} (h : SqL K H a (ns.map V.int)) (q : Q (.int ns.sum) H) : rSum K [.ref a] H Q := ⟨a, ns, rfl, h, q⟩
/-! what the faults are -/
def gLen (g : Seg) : Int := g.vs.length
def span (g : Seg) : Int × Int := (g.ad, g.ad + g.vs.length)
def bothB (g : Seg) : Bool := g.wr && g.ex
def bothF (l : List Seg) : Bool := (l.map bothB).any id
def badP (p : (Int × Int) × (Int × Int)) : Bool := decide (p.2.1 ≤ p.1.1) || decide (p.2.1 < p.1.2)
def outF (l : List Seg) : Bool := ((l.map span).zip (l.map span).tail).any badP
def segOk (g : Seg) : Bool := wOk g.ad && decide (g.ad % 4 = 0) && decide (4 ≤ g.vs.length) && decide (g.vs.length % 4 = 0) && (g.vs.map byOk).all id
def sizeF (l : List Seg) : Bool := !decide (1 ≤ l.length ∧ l.length ≤ 16) || decide (65536 < (l.map gLen).sum) || (l.map fun g => decide (4294967296 < (span g).2)).any id
def leQ (p : (Int × Str) × (Int × Str)) : Bool := leP p.1.1 p.1.2 p.2.1 p.2.2
def symB (p : Int × Str) : Bool := wOk p.1 && nameOk p.2
def symOk (l : List (Int × Str)) : Bool := (l.map symB).all id && ((l.zip l.tail).map leQ).all id
def flags (im : Im) : List (Str × Bool) := [("both", bothF im.sg), ("order", outF im.sg), ("segment", !(im.sg.map segOk).all id), ("size", sizeF im.sg), ("symbol", !symOk im.sy)]
def faults (im : Im) : List Str := (flags im).filterMap fun p => if p.2 = true then some p.1 else none
structure ImSz (im : Im) : Prop where
  a : im.sg.length ≤ 1000
  b : ∀ g ∈ im.sg, g.vs.length ≤ 1000000
  c : im.sy.length ≤ 1000
  d : ∀ p ∈ im.sy, p.2.length ≤ 1000
theorem sc_is_segment : FnScope ["row", "address", "values", "writable", "executable", "value"] ["row"] (defScope s_is_segment) := ⟨rfl, rfl, rfl, by decide +kernel, rfl, by decide +kernel, by decide +kernel⟩
theorem sc_spans : FnScope ["rows", "row"] ["rows"] (defScope s_spans) := ⟨rfl, rfl, rfl, by decide +kernel, rfl, by decide +kernel, by decide +kernel⟩
theorem sc_length : FnScope ["row"] ["row"] (defScope s_length) := ⟨rfl, rfl, rfl, by decide +kernel, rfl, by decide +kernel, by decide +kernel⟩
theorem sc_out_of_order : FnScope ["rows", "spans", "address", "behind", "following"] ["rows"] (defScope s_out_of_order) := ⟨rfl, rfl, rfl, by decide +kernel, rfl, by decide +kernel, by decide +kernel⟩
theorem sc_has_bad_size : FnScope ["count", "rows", "row", "span"] ["count", "rows"] (defScope s_has_bad_size) := ⟨rfl, rfl, rfl, by decide +kernel, rfl, by decide +kernel, by decide +kernel⟩
theorem sc_are_symbols : FnScope ["symbols", "pair", "following"] ["symbols"] (defScope s_are_symbols) := ⟨rfl, rfl, rfl, by decide +kernel, rfl, by decide +kernel, by decide +kernel⟩
theorem sc_image_faults : FnScope ["image", "segments", "_", "symbols", "listed", "rows", "found", "row", "code", "wrong"] ["image"] (defScope s_image_faults) := ⟨rfl, rfl, rfl, by decide +kernel, rfl, by decide +kernel, by decide +kernel⟩
local macro_rules | `(tactic| walk_at "w1") => `(tactic| first
  | (with_reducible refine w_isS ?_)
  | (with_reducible refine w_lePS ?_)
  | (with_reducible refine w_isiB ?_)
  | (with_reducible refine w_isBl ?_)
  | (with_reducible refine w_zA ?_))
def spLen : Sp := fun vs H Q _ => ∃ (v : V) (g : Seg), vs = [v] ∧ SegAt H v g ∧ Q (.int g.vs.length) H
def spSpans : Sp := fun vs H Q _ => ∃ (p : Addr) (us : List V) (l : List Seg), vs = [.ref p] ∧ H p = some (.lst us) ∧ Al (SegAt H) us l ∧ l.length ≤ 1000 ∧ ∀ q ws H', H q = none → Same H H' → H' q = some (.lst ws) → Al (PrAt H') ws (l.map span) → Q (.ref q) H'
def spIsSeg : Sp := fun vs H Q _ => ∃ (v : V) (g : Seg), vs = [v] ∧ SegAt H v g ∧ g.vs.length ≤ 1000000 ∧ ∀ H', Same H H' → Q (.bl (segOk g)) H'
def spOut : Sp := fun vs H Q _ => ∃ (p : Addr) (us : List V) (l : List Seg), vs = [.ref p] ∧ H p = some (.lst us) ∧ Al (SegAt H) us l ∧ l.length ≤ 1000 ∧ ∀ H', Same H H' → Q (.bl (outF l)) H'
def spBadSz : Sp := fun vs H Q _ => ∃ (p : Addr) (us : List V) (l : List Seg) (n : Int), vs = [.int n, .ref p] ∧ n = l.length ∧ H p = some (.lst us) ∧ Al (SegAt H) us l ∧ l.length ≤ 1000 ∧ ∀ H', Same H H' → Q (.bl (sizeF l)) H'
def spSyms : Sp := fun vs H Q _ => ∃ (t : Addr) (ws : List V) (l : List (Int × Str)), vs = [.ref t] ∧ H t = some (.tup ws) ∧ Al (SymAt H) ws l ∧ l.length ≤ 1000 ∧ (∀ p ∈ l, p.2.length ≤ 1000) ∧ ∀ H', Same H H' → Q (.bl (symOk l)) H'
def spFaults : Sp := fun vs H Q _ => ∃ (t : Addr) (im : Im), vs = [.ref t] ∧ ImAt H t im ∧ ImSz im ∧ ∀ p H', H p = none → Same H H' → H' p = some (.lst ((faults im).map V.str)) → Q (.ref p) H'
def SpI (H : Hp) (l : List Seg) (D : Addr) (i : Nat) (H' : Hp) : Prop := H D = none ∧ Same H H' ∧ ∃ ws : List V, ws.length = i ∧ H' D = some (.lst ws) ∧ ∀ (j : Nat) (v : V) (g : Seg), ws[j]? = some v → l[j]? = some g → PrAt H' v (span g)
theorem SpI.start {H : Hp} {l : List Seg} : ∀ D, H D = none → SpI H l D 0 (upd H D (.lst [])) := fun D nD => ⟨nD, Same.new nD, [], rfl, upd_same, fun j v g h _ => absurd h (by simp)⟩
section
variable {P : Program} {w : World} {K : PySem.W.Frag} {mg : Str → Option Value} {base : Heap}
theorem ok_length (b_len : mg "len" = none) (b_isinstance : mg "isinstance" = none) (b_tuple : mg "tuple" = none) (Z : St1 K mg "_length" s_length ["row"]) : Cd P w K mg base 1 "_length" spLen := by
  refine Z.cd sc_length (fun vs H Q E h => by obtain ⟨v, g, rfl, _⟩ := h; rfl) (fun f cdv A outer s H vs Q E hr h => ?_)
  obtain ⟨v, g, rfl, ⟨t, tv, rfl, ht, hv⟩, q⟩ := h
  refine ⟨_, (pss_one (ps_ret (pe_ifExp (pt_val (pe_callB call_isi (by rfl) b_isinstance (by decide +kernel) (pa_cons (pe_ix ix_tup (pv 0) pe_int (fun _ _ => rfl)) (pa_cons (pe_bltn (v := .ty "tuple") (by rfl) b_tuple (by decide +kernel) rfl) pa_nil)))) (pe_callB call_lenQ (by rfl) b_len PySem.boot_len (pa_cons (pe_ix ix_tup (pv 0) pe_int (fun _ _ => rfl)) pa_nil)) pe_int))), ?_⟩
  (with_reducible refine w_ret ?_)
  (with_reducible refine w_if ?_)
  (with_reducible refine w_B ?_)
  (with_reducible refine w_cb ?_)
  (with_reducible refine w_cons ?_)
  (with_reducible refine w_op ?_)
  ((with_reducible refine' w_var ?hv ?_); (case hv => exact rfl))
  (with_reducible refine w_c ?_)
  ((with_reducible refine' w_ixT ?hh ?ha ?_); (case hh => assumption); (case ha => exact rfl))
  (with_reducible refine w_cons ?_)
  (with_reducible refine w_c ?_)
  (with_reducible refine w_nil ?_)
  refine w_isiTT hv ?_
  (with_reducible refine w_bl ?_)
  (with_reducible refine w_itT ?_)
  (with_reducible refine w_cb ?_)
  (with_reducible refine w_cons ?_)
  (with_reducible refine w_op ?_)
  ((with_reducible refine' w_var ?hv ?_); (case hv => exact rfl))
  (with_reducible refine w_c ?_)
  ((with_reducible refine' w_ixT ?hh ?ha ?_); (case hh => assumption); (case ha => exact rfl))
  (with_reducible refine w_nil ?_)
  refine w_lenTs (.of hv) ?_
  rw [List.length_map]
  exact q
theorem ok_spans (c_is_number : Cd P w K mg base 1 "is_number" spIsNum) (c_length : Cd P w K mg base 1 "_length" spLen) (Z : St1 K mg "_spans" s_spans ["rows"]) : Cd P w K mg base 2 "_spans" spSpans := by
  refine Z.cd sc_spans (fun vs H Q E h => by obtain ⟨p, us, l, rfl, _⟩ := h; rfl) (fun f cdv A outer s H vs Q E hr h => ?_)
  obtain ⟨p, us, l, rfl, hp, ha, hl, q⟩ := h
  refine ⟨_, (pss_one (ps_ret (pe_lc (own := [("row", 1)]) rfl sc_spans.nd (pi_list (pv 0)) (blkOk_by (own := [("row", 1)]) (N := ["rows", "row"]) (sc := (defScope s_spans)) (by decide +kernel)) (fun _ _ _ _ _ => (pg_name (i := 1) sc_spans.nd rfl (.inl rfl))) (fun _ _ _ _ _ => (pts_one (pt_val (pe_cd c_is_number hr (by first | decide | omega) (by rfl) (pa_cons (pe_ix (ix_tupK (K' := K) (by rfl)) (pv 1) pe_int (fun _ _ => rfl)) pa_nil))))) (fun _ _ _ _ _ => (pe_tup (pa_cons (pe_ix (ix_tupK (K' := K) (by rfl)) (pv 1) pe_int (fun _ _ => rfl)) (pa_cons (pe_op op_add (pe_ix (ix_tupK (K' := K) (by rfl)) (pv 1) pe_int (fun _ _ => rfl)) (pe_cd c_length hr (by first | decide | omega) (by rfl) (pa_cons (pv 1) pa_nil))) pa_nil))))))), ?_⟩
  (with_reducible refine w_ret ?_)
  (with_reducible refine w_lc ?_)
  (with_reducible refine w_iL ?_)
  ((with_reducible refine' w_var ?hv ?_); (case hv => exact rfl))
  refine w_lcL us (fun D i H' => SpI H l D i H') (.of hp) SpI.start (fun D i H' _ h => .of (h.2.1 _ _ hp)) (fun D i x H' hx h => ?_) (fun D H' nD h => ?_)
  · obtain ⟨nD, sm, ws, hi, hD, hw⟩ := h
    obtain ⟨g, hg, sg⟩ := ha.at hx
    obtain ⟨t, tv, rfl, ht, hv⟩ := sg.tk (TK.same sm)
    have hil : i < l.length := (List.getElem?_eq_some_iff.mp hg).1
    (with_reducible refine w_name ?_)
    refine ⟨rfl, ?_⟩
    (with_reducible refine w_B ?_)
    (with_reducible refine w_call ?_)
    (with_reducible refine w_cons ?_)
    (with_reducible refine w_op ?_)
    ((with_reducible refine' w_var ?hv ?_); (case hv => exact rfl))
    (with_reducible refine w_c ?_)
    ((with_reducible refine' w_ixT ?hh ?ha ?_); (case hh => assumption); (case ha => exact rfl))
    (with_reducible refine w_nil ?_)
    refine ⟨_, rfl, ?_⟩
    (with_reducible refine w_bl ?_)
    (with_reducible refine w_itT ?_)
    (with_reducible refine w_tup ?_)
    (with_reducible refine w_cons ?_)
    (with_reducible refine w_op ?_)
    ((with_reducible refine' w_var ?hv ?_); (case hv => exact rfl))
    (with_reducible refine w_c ?_)
    ((with_reducible refine' w_ixT ?hh ?ha ?_); (case hh => assumption); (case ha => exact rfl))
    (with_reducible refine w_cons ?_)
    (with_reducible refine w_op ?_)
    (with_reducible refine w_op ?_)
    ((with_reducible refine' w_var ?hv ?_); (case hv => exact rfl))
    (with_reducible refine w_c ?_)
    ((with_reducible refine' w_ixT ?hh ?ha ?_); (case hh => assumption); (case ha => exact rfl))
    (with_reducible refine w_call ?_)
    (with_reducible refine w_cons ?_)
    ((with_reducible refine' w_var ?hv ?_); (case hv => exact rfl))
    (with_reducible refine w_nil ?_)
    refine ⟨.ref t, g, rfl, ⟨t, tv, rfl, ht, hv⟩, ?_⟩
    (with_reducible refine w_I0 ?_)
    (with_reducible refine w_nil ?_)
    refine w_kTup (by show 2 ≤ sizeLine; decide) fun T H2 nT s2 hT => ?_
    refine ⟨_, s2 _ _ hD, by rw [hi]; exact small1000 (by omega), nD, fun y o hy => ?_, ws ++ [.ref T], by rw [List.length_append, hi]; rfl, upd_same, fun j v g' h1 h2 => ?_⟩
    · rw [upd_ne (ne_of_none hy nD)]
      exact s2 _ _ (sm _ _ hy)
    · have tk : TK H2 (upd H2 D (.lst (ws ++ [.ref T]))) := fun a xs z => by rw [upd_ne (ne_of z (s2 _ _ hD) (by intro y; cases y))]; exact z
      by_cases hj : j < ws.length
      · rw [List.getElem?_append_left hj] at h1
        exact ((hw j v g' h1 h2).tk (TK.same s2)).tk tk
      · have ej : j = i := by
          have := (List.getElem?_eq_some_iff.mp h1).1
          rw [List.length_append] at this
          simp at this
          omega
        subst ej
        rw [List.getElem?_append_right (by omega), hi, Nat.sub_self] at h1
        cases h1
        rw [hg] at h2
        cases h2
        exact ⟨T, rfl, tk _ _ hT⟩
  · obtain ⟨_, sm, ws, hi, hD, hw⟩ := h
    skip
    exact q D ws H' nD sm hD ⟨by rw [hi, List.length_map]; exact ha.1, fun j v pr h1 h2 => by
      rw [List.getElem?_map] at h2
      obtain ⟨g, hg, rfl⟩ := Option.map_eq_some_iff.mp h2
      exact hw j v g h1 hg⟩
end
end K08


open PySem.W
namespace K08
open TL RZ
local macro_rules | `(tactic| walk_at "w1") => `(tactic| first
  | (with_reducible refine w_isS ?_)
  | (with_reducible refine w_lePS ?_)
  | (with_reducible refine w_isiB ?_)
  | (with_reducible refine w_isBl ?_)
  | (with_reducible refine w_zA ?_))
theorem zip_at {α : Type} {l : List α} {i : Nat} {a b : α} (h1 : l[i]? = some a) (h2 : l.tail[i]? = some b) : (l.zip l.tail)[i]? = some (a, b) := by
  rw [List.getElem?_zip_eq_some]
  exact ⟨h1, h2⟩
theorem any_take {α : Type} (p : α → Bool) {l : List α} {i : Nat} {a : α} (h : l[i]? = some a) (h0 : (l.take i).any p = false) (ha : p a = false) : (l.take (i + 1)).any p = false := by
  rw [take_more h, List.any_append, h0]
  simp [ha]
section
variable {P : Program} {w : World} {K : PySem.W.Frag} {mg : Str → Option Value} {base : Heap}
theorem ok_is_segment (b_len : mg "len" = none) (b_isinstance : mg "isinstance" = none) (b_tuple : mg "tuple" = none) (b_bool : mg "bool" = none) (b_all : mg "all" = none) (c_is_row : Cd P w K mg base 1 "is_row" spIsRow) (c_is_word : Cd P w K mg base 2 "is_word" spIsW) (c_is_byte : Cd P w K mg base 2 "is_byte" spIsB) (Z : St1 K mg "_is_segment" s_is_segment ["row"]) : Cd P w K mg base 3 "_is_segment" spIsSeg := by
  refine Z.cd sc_is_segment (fun vs H Q E h => by obtain ⟨v, g, rfl, _⟩ := h; rfl) (fun f cdv A outer s H vs Q E hr h => ?_)
  obtain ⟨v, g, rfl, ⟨t, tv, rfl, ht, hv⟩, hz, q⟩ := h
  have e2 : Builtin.bitAnd g.ad 3 = g.ad % 4 := PySem.W.kbt_mask g.ad 2
  have e3 : Builtin.bitAnd (g.vs.length : Int) 3 = (g.vs.length : Int) % 4 := PySem.W.kbt_mask _ 2
  refine ⟨_, (pss_cons (ps_if (pt_not (pt_val (pe_cd c_is_row hr (by first | decide | omega) (by rfl) (pa_cons (pv 0) (pa_cons pe_int pa_nil))))) (pss_one (ps_ret pe_bl)) pss_nil)
      (pss_cons (ps_asg (pv 0) (pg_tup rfl (pgs_cons (pg_name (i := 1) sc_is_segment.nd rfl (.inl rfl)) (pgs_cons (pg_name (i := 2) sc_is_segment.nd rfl (.inl rfl)) (pgs_cons (pg_name (i := 3) sc_is_segment.nd rfl (.inl rfl)) (pgs_cons (pg_name (i := 4) sc_is_segment.nd rfl (.inl rfl)) pgs_nil))))))
      (pss_cons (ps_if (PW.pt (pw_or (pt_not (pt_val (pe_cd c_is_word hr (by first | decide | omega) (by rfl) (pa_cons (pv 1) pa_nil)))) (pw_or1 (pt_cmpR op_ne (pe_op op_and (pv 1) pe_int) pe_int (nomark _))))) (pss_one (ps_ret pe_bl)) pss_nil)
      (pss_cons (ps_if (PW.pt (pw_or (pt_not (pt_val (pe_callB call_isi (by rfl) b_isinstance (by decide +kernel) (pa_cons (pv 2) (pa_cons (pe_bltn (v := .ty "tuple") (by rfl) b_tuple (by decide +kernel) rfl) pa_nil))))) (pw_or (pt_cmpR op_lt (pe_callB call_lenQ (by rfl) b_len PySem.boot_len (pa_cons (pv 2) pa_nil)) pe_int (nomark _)) (pw_or1 (pt_cmpR op_ne (pe_op op_and (pe_callB call_lenQ (by rfl) b_len PySem.boot_len (pa_cons (pv 2) pa_nil)) pe_int) pe_int (nomark _)))))) (pss_one (ps_ret pe_bl)) pss_nil)
      (pss_cons (ps_if (PW.pt (pw_or (pt_not (pt_val (pe_callB call_isi (by rfl) b_isinstance (by decide +kernel) (pa_cons (pv 3) (pa_cons (pe_bltn (v := .ty "bool") (by rfl) b_bool (by decide +kernel) rfl) pa_nil))))) (pw_or1 (pt_not (pt_val (pe_callB call_isi (by rfl) b_isinstance (by decide +kernel) (pa_cons (pv 4) (pa_cons (pe_bltn (v := .ty "bool") (by rfl) b_bool (by decide +kernel) rfl) pa_nil)))))))) (pss_one (ps_ret pe_bl)) pss_nil)
      (pss_one (ps_ret (pe_callB (cr_all rfl) (by rfl) b_all (by decide +kernel) (pa_cons (pe_lc (own := [("value", 5)]) rfl sc_is_segment.nd (pi_tup (pv 2)) (blkOk_by (own := [("value", 5)]) (N := ["row", "address", "values", "writable", "executable", "value"]) (sc := (defScope s_is_segment)) (by decide +kernel)) (fun _ _ _ _ _ => (pg_name (i := 5) sc_is_segment.nd rfl (.inl rfl))) (fun _ _ _ _ _ => pts_nil) (fun _ _ _ _ _ => (pe_cd c_is_byte hr (by first | decide | omega) (by rfl) (pa_cons (pv 5) pa_nil)))) pa_nil))))))))), ?_⟩
  have no : segOk g = false → Q (.bl false) H := fun e => by
    have := q H (Same.refl H)
    rw [e] at this
    exact this
  (with_reducible refine w_seq ?_)
  (with_reducible refine w_ifS ?_)
  (with_reducible refine w_notT ?_)
  (with_reducible refine w_B ?_)
  (with_reducible refine w_call ?_)
  (with_reducible refine w_cons ?_)
  ((with_reducible refine' w_var ?hv ?_); (case hv => exact rfl))
  (with_reducible refine w_cons ?_)
  (with_reducible refine w_c ?_)
  (with_reducible refine w_nil ?_)
  refine ⟨t, _, 4, rfl, ht, ?_⟩
  (with_reducible refine w_bl ?_)
  refine w_ndec (fun e0 => absurd rfl e0) (fun _ => ?_)
  (with_reducible refine w_next ?_)
  (with_reducible refine w_seq ?_)
  (with_reducible refine w_asg ?_)
  ((with_reducible refine' w_var ?hv ?_); (case hv => exact rfl))
  ((with_reducible refine' w_gTup ?hh ?hn ?_); (case hh => assumption); (case hn => exact rfl))
  (with_reducible refine w_gCons ?_)
  (with_reducible refine w_name ?_)
  (with_reducible refine w_gCons ?_)
  (with_reducible refine w_name ?_)
  (with_reducible refine w_gCons ?_)
  (with_reducible refine w_name ?_)
  (with_reducible refine w_gCons ?_)
  (with_reducible refine w_name ?_)
  (with_reducible refine w_gNil ?_)
  (with_reducible refine w_seq ?_)
  (with_reducible refine w_ifS ?_)
  (with_reducible refine w_orT ?_)
  (with_reducible refine w_notT ?_)
  (with_reducible refine w_B ?_)
  (with_reducible refine w_call ?_)
  (with_reducible refine w_cons ?_)
  ((with_reducible refine' w_var ?hv ?_); (case hv => exact rfl))
  (with_reducible refine w_nil ?_)
  refine ⟨g.ad, rfl, ?_⟩
  cases e1 : wOk g.ad with
  | false =>
    (with_reducible refine w_bl ?_)
    (with_reducible refine w_nF ?_)
    (with_reducible refine w_itT ?_)
    (with_reducible refine w_ret ?_)
    (with_reducible refine w_c ?_)
    exact no (by unfold segOk; rw [e1]; rfl)
  | true =>
    (with_reducible refine w_bl ?_)
    (with_reducible refine w_nT ?_)
    (with_reducible refine w_test ?_)
    (with_reducible refine w_op ?_)
    (with_reducible refine w_op ?_)
    ((with_reducible refine' w_var ?hv ?_); (case hv => exact rfl))
    (with_reducible refine w_c ?_)
    (with_reducible refine w_I0 ?_)
    (with_reducible refine w_c ?_)
    (with_reducible refine w_neI ?_)
    (with_reducible refine w_bl ?_)
    rw [e2]
    refine w_ndec (fun e4 => ?_) (fun e4 => ?_)
    · (with_reducible refine w_ret ?_)
      (with_reducible refine w_c ?_)
      exact no (by unfold segOk; rw [decide_eq_false e4]; simp)
    · (with_reducible refine w_next ?_)
      (with_reducible refine w_seq ?_)
      (with_reducible refine w_ifS ?_)
      (with_reducible refine w_orT ?_)
      (with_reducible refine w_notT ?_)
      (with_reducible refine w_B ?_)
      (with_reducible refine w_cb ?_)
      (with_reducible refine w_cons ?_)
      ((with_reducible refine' w_var ?hv ?_); (case hv => exact rfl))
      (with_reducible refine w_cons ?_)
      (with_reducible refine w_c ?_)
      (with_reducible refine w_nil ?_)
      refine w_isiTT hv ?_
      (with_reducible refine w_bl ?_)
      (with_reducible refine w_nT ?_)
      (with_reducible refine w_orT ?_)
      (with_reducible refine w_test ?_)
      (with_reducible refine w_op ?_)
      (with_reducible refine w_cb ?_)
      (with_reducible refine w_cons ?_)
      ((with_reducible refine' w_var ?hv ?_); (case hv => exact rfl))
      (with_reducible refine w_nil ?_)
      refine w_lenTs (.of hv) ?_
      rw [List.length_map]
      (with_reducible refine w_c ?_)
      (with_reducible refine w_I0 ?_)
      (with_reducible refine w_bl ?_)
      refine w_dec (fun e5 => ?_) (fun e5 => ?_)
      · (with_reducible refine w_itT ?_)
        (with_reducible refine w_ret ?_)
        (with_reducible refine w_c ?_)
        exact no (by unfold segOk; rw [decide_eq_false (show ¬ 4 ≤ g.vs.length by omega)]; simp)
      · (with_reducible refine w_test ?_)
        (with_reducible refine w_op ?_)
        (with_reducible refine w_op ?_)
        (with_reducible refine w_cb ?_)
        (with_reducible refine w_cons ?_)
        ((with_reducible refine' w_var ?hv ?_); (case hv => exact rfl))
        (with_reducible refine w_nil ?_)
        refine w_lenTs (.of hv) ?_
        rw [List.length_map]
        (with_reducible refine w_c ?_)
        (with_reducible refine w_I0 ?_)
        (with_reducible refine w_c ?_)
        (with_reducible refine w_neI ?_)
        (with_reducible refine w_bl ?_)
        rw [e3]
        refine w_ndec (fun e6 => ?_) (fun e6 => ?_)
        · (with_reducible refine w_ret ?_)
          (with_reducible refine w_c ?_)
          exact no (by unfold segOk; rw [decide_eq_false (show ¬ g.vs.length % 4 = 0 by omega)]; simp)
        · (with_reducible refine w_next ?_)
          (with_reducible refine w_seq ?_)
          (with_reducible refine w_ifS ?_)
          (with_reducible refine w_orT ?_)
          (with_reducible refine w_notT ?_)
          (with_reducible refine w_B ?_)
          (with_reducible refine w_cb ?_)
          (with_reducible refine w_cons ?_)
          ((with_reducible refine' w_var ?hv ?_); (case hv => exact rfl))
          (with_reducible refine w_cons ?_)
          (with_reducible refine w_c ?_)
          (with_reducible refine w_nil ?_)
          (with_reducible refine w_isiB ?_)
          (with_reducible refine w_bl ?_)
          (with_reducible refine w_nT ?_)
          (with_reducible refine w_notT ?_)
          (with_reducible refine w_B ?_)
          (with_reducible refine w_cb ?_)
          (with_reducible refine w_cons ?_)
          ((with_reducible refine' w_var ?hv ?_); (case hv => exact rfl))
          (with_reducible refine w_cons ?_)
          (with_reducible refine w_c ?_)
          (with_reducible refine w_nil ?_)
          (with_reducible refine w_isiB ?_)
          (with_reducible refine w_bl ?_)
          (with_reducible refine w_nT ?_)
          (with_reducible refine w_next ?_)
          (with_reducible refine w_ret ?_)
          (with_reducible refine w_cb ?_)
          (with_reducible refine w_cons ?_)
          (with_reducible refine w_lc ?_)
          (with_reducible refine w_iT ?_)
          ((with_reducible refine' w_var ?hv ?_); (case hv => exact rfl))
          have ok : segOk g = (g.vs.map byOk).all id := by
            unfold segOk
            rw [e1, decide_eq_true e4, decide_eq_true (show 4 ≤ g.vs.length by omega), decide_eq_true (show g.vs.length % 4 = 0 by omega)]
            rfl
          refine w_lcT (g.vs.map V.int) (fun D i H' => LcAt H ((g.vs.map byOk).map V.bl) D i H') (.of hv) LcAt.start (fun D i H' _ h => .of (h.2.1 _ _ hv)) (fun D i x H' hx h => ?_) (fun D H' nD h => ?_)
          · obtain ⟨n, hn, rfl⟩ := map_get hx
            (with_reducible refine w_name ?_)
            refine ⟨rfl, ?_⟩
            (with_reducible refine w_yes ?_)
            (with_reducible refine w_itT ?_)
            (with_reducible refine w_call ?_)
            (with_reducible refine w_cons ?_)
            ((with_reducible refine' w_var ?hv ?_); (case hv => exact rfl))
            (with_reducible refine w_nil ?_)
            refine ⟨n, rfl, ?_⟩
            exact h.fin (by rw [List.getElem?_map, List.getElem?_map, hn]; rfl) (by rw [List.length_map, List.length_map]; exact big1 hz) (Same.refl _)
          · obtain ⟨s1, hD⟩ := h.all (by simp)
            (with_reducible refine w_nil ?_)
            refine w_allB hD ?_
            have := q H' s1
            rw [ok] at this
            exact this
theorem ok_out_of_order (b_zip : mg "zip" = none) (c_spans : Cd P w K mg base 2 "_spans" spSpans) (Z : St1 K mg "_out_of_order" s_out_of_order ["rows"]) : Cd P w K mg base 3 "_out_of_order" spOut := by
  refine Z.cd sc_out_of_order (fun vs H Q E h => by obtain ⟨p, us, l, rfl, _⟩ := h; rfl) (fun f cdv A outer s H vs Q E hr h => ?_)
  obtain ⟨p, us, l, rfl, hp, ha, hl, q⟩ := h
  refine ⟨_, (Evl.pss_cut (ps_set (i := 1) sc_out_of_order.nd rfl (.inl rfl) (pe_cd c_spans hr (by first | decide | omega) (by rfl) (pa_cons (pv 0) pa_nil)))
      (pss_cons (ps_for PassesOwn.never rfl (pi_zipA (by rfl) b_zip (pa_cons (pv 1) (pa_cons (pe_slice sl_list (pv 1) (po_some pe_int) po_none) pa_nil))) (pg_tup rfl (pgs_cons (pg_tup rfl (pgs_cons (pg_name (i := 2) sc_out_of_order.nd rfl (.inl rfl)) (pgs_cons (pg_name (i := 3) sc_out_of_order.nd rfl (.inl rfl)) pgs_nil))) (pgs_cons (pg_name (i := 4) sc_out_of_order.nd rfl (.inl rfl)) pgs_nil)))
      (pss_one (ps_if (PW.pt (pw_or (pt_cmpR op_le (pe_ix ix_tup (pv 4) pe_int (fun _ _ => rfl)) (pv 2) (nomark _)) (pw_or1 (pt_cmpR op_lt (pe_ix ix_tup (pv 4) pe_int (fun _ _ => rfl)) (pv 3) (nomark _))))) (pss_one (ps_ret pe_bl)) pss_nil)))
      (pss_one (ps_ret pe_bl)))), ?_⟩
  refine Evl.q_cut (M := fun σ' H' => Same H H' ∧ ∃ (r : Addr) (ws : List V), H' r = some (.lst ws) ∧ Al (PrAt H') ws (l.map span) ∧ σ' = [some (.ref p), some (.ref r), none, none, none]) ?_ ?_
  · (with_reducible refine w_asg ?_)
    (with_reducible refine w_call ?_)
    (with_reducible refine w_cons ?_)
    ((with_reducible refine' w_var ?hv ?_); (case hv => exact rfl))
    (with_reducible refine w_nil ?_)
    refine ⟨p, us, l, rfl, hp, ha, hl, fun r ws H1 nr s1 hr1 hw => ?_⟩
    (with_reducible refine w_name ?_)
    exact ⟨s1, r, ws, hr1, hw, rfl⟩
  · rintro σ' H1 ⟨s1, r, ws, hr1, hw, rfl⟩
    (with_reducible refine w_seq ?_)
    (with_reducible refine w_for ?_)
    (with_reducible refine w_zA ?_)
    (with_reducible refine w_cons ?_)
    ((with_reducible refine' w_var ?hv ?_); (case hv => exact rfl))
    (with_reducible refine w_cons ?_)
    (with_reducible refine w_sl ?_)
    ((with_reducible refine' w_var ?hv ?_); (case hv => exact rfl))
    (with_reducible refine w_part ?_)
    (with_reducible refine w_c ?_)
    (with_reducible refine w_exI ?_)
    (with_reducible refine w_noPart ?_)
    refine w_slLL (.of hr1) fun r2 H2 nr2 s2 hr2 => ?_
    rw [cut_tail] at hr2
    (with_reducible refine w_nil ?_)
    have wl : ws.length = l.length := by rw [hw.1, List.length_map]
    refine w_forZA ws ws.tail ws.tail.length (fun i σ H' => Same H2 H' ∧ ((((l.map span).zip (l.map span).tail).take i).any badP = false) ∧ ∃ v2 v3 v4 : Option V, σ = [some (.ref p), some (.ref r), v2, v3, v4]) (.of (s2 _ _ hr1)) (.of hr2) (by rw [List.length_tail]; omega) ⟨Same.refl _, rfl, _, _, _, rfl⟩ (fun i σ H' h => ⟨.of (h.1 _ _ (s2 _ _ hr1)), .of (h.1 _ _ hr2)⟩) (fun i x y σ H3 T H4 hx hy h nT s4 hT => ?_) (fun σ H3 h => ?_)
    · obtain ⟨s3, ih, v2, v3, v4, rfl⟩ := h
      have hx' := hx
      have hy' := hy
      rw [List.getElem?_tail] at hy'
      obtain ⟨g1, h1, g1a⟩ := hw.at hx
      obtain ⟨g2, h2, g2a⟩ := hw.at hy'
      have s24 := s2.trans (s3.trans s4)
      obtain ⟨t1, rfl, k1⟩ := g1a.tk (TK.same s24)
      obtain ⟨t2, rfl, k2⟩ := g2a.tk (TK.same s24)
      have hz : ((l.map span).zip (l.map span).tail)[i]? = some (g1, g2) := zip_at h1 (by rw [List.getElem?_tail]; exact h2)
      ((with_reducible refine' w_gTup ?hh ?hn ?_); (case hh => assumption); (case hn => exact rfl))
      (with_reducible refine w_gCons ?_)
      ((with_reducible refine' w_gTup ?hh ?hn ?_); (case hh => assumption); (case hn => exact rfl))
      (with_reducible refine w_gCons ?_)
      (with_reducible refine w_name ?_)
      (with_reducible refine w_gCons ?_)
      (with_reducible refine w_name ?_)
      (with_reducible refine w_gNil ?_)
      (with_reducible refine w_gCons ?_)
      (with_reducible refine w_name ?_)
      (with_reducible refine w_gNil ?_)
      (with_reducible refine w_ifS ?_)
      (with_reducible refine w_orT ?_)
      (with_reducible refine w_test ?_)
      (with_reducible refine w_op ?_)
      (with_reducible refine w_op ?_)
      ((with_reducible refine' w_var ?hv ?_); (case hv => exact rfl))
      (with_reducible refine w_c ?_)
      ((with_reducible refine' w_ixT ?hh ?ha ?_); (case hh => assumption); (case ha => exact rfl))
      ((with_reducible refine' w_var ?hv ?_); (case hv => exact rfl))
      (with_reducible refine w_I0 ?_)
      (with_reducible refine w_bl ?_)
      have bad : badP (g1, g2) = true → Q (.bl true) H4 := fun e => by
        have := q H4 (s1.trans s24)
        have e2 : outF l = true := List.any_eq_true.mpr ⟨_, List.mem_of_getElem? hz, e⟩
        rw [e2] at this
        exact this
      refine w_dec (fun e => ?_) (fun e => ?_)
      · (with_reducible refine w_itT ?_)
        (with_reducible refine w_ret ?_)
        (with_reducible refine w_c ?_)
        exact bad (by unfold badP; rw [decide_eq_true e]; rfl)
      · (with_reducible refine w_test ?_)
        (with_reducible refine w_op ?_)
        (with_reducible refine w_op ?_)
        ((with_reducible refine' w_var ?hv ?_); (case hv => exact rfl))
        (with_reducible refine w_c ?_)
        ((with_reducible refine' w_ixT ?hh ?ha ?_); (case hh => assumption); (case ha => exact rfl))
        ((with_reducible refine' w_var ?hv ?_); (case hv => exact rfl))
        (with_reducible refine w_I0 ?_)
        (with_reducible refine w_bl ?_)
        refine w_dec (fun e2 => ?_) (fun e2 => ?_)
        · (with_reducible refine w_ret ?_)
          (with_reducible refine w_c ?_)
          exact bad (by unfold badP; rw [decide_eq_true e2]; simp)
        · (with_reducible refine w_next ?_)
          exact ⟨s3.trans s4, any_take badP hz ih (by unfold badP; rw [decide_eq_false e, decide_eq_false e2]; rfl), _, _, _, rfl⟩
    · obtain ⟨s3, ih, v2, v3, v4, rfl⟩ := h
      (with_reducible refine w_ret ?_)
      (with_reducible refine w_c ?_)
      have := q H3 (s1.trans (s2.trans s3))
      have e : outF l = false := by
        unfold outF
        have e2 : ((l.map span).zip (l.map span).tail).take ws.tail.length = (l.map span).zip (l.map span).tail := List.take_of_length_le (by rw [List.length_zip, List.length_tail, List.length_tail, List.length_map]; omega)
        rw [e2] at ih
        exact ih
      rw [e] at this
      exact this
theorem ok_has_bad_size (b_sum : mg "sum" = none) (b_any : mg "any" = none) (g_MOST_SEGMENTS : GV mg "MOST_SEGMENTS" (.int 16)) (g_MOST_BYTES : GV mg "MOST_BYTES" (.int 65536)) (g_WORDS_IN_ALL : GV mg "WORDS_IN_ALL" (.int 4294967296)) (c_length : Cd P w K mg base 1 "_length" spLen) (c_spans : Cd P w K mg base 2 "_spans" spSpans) (Z : St1 K mg "_has_bad_size" s_has_bad_size ["count", "rows"]) : Cd P w K mg base 3 "_has_bad_size" spBadSz := by
  refine Z.cd sc_has_bad_size (fun vs H Q E h => by obtain ⟨p, us, l, n, rfl, _⟩ := h; rfl) (fun f cdv A outer s H vs Q E hr h => ?_)
  obtain ⟨p, us, l, n, rfl, en, hp, ha, hl, q⟩ := h
  subst en
  refine ⟨_, (pss_cons (ps_if (pt_not (pt_chain op_le op_le pe_int (pv 0) (pe_gv (by rfl) g_MOST_SEGMENTS))) (pss_one (ps_ret pe_bl)) pss_nil)
      (pss_cons (ps_if (pt_cmpR op_gt (pe_callB (cr_sum rfl) (by rfl) b_sum (by decide +kernel) (pa_cons (pe_lc (own := [("row", 2)]) rfl sc_has_bad_size.nd (pi_list (pv 1)) (blkOk_by (own := [("row", 2)]) (N := ["count", "rows", "row", "span"]) (sc := (defScope s_has_bad_size)) (by decide +kernel)) (fun _ _ _ _ _ => (pg_name (i := 2) sc_has_bad_size.nd rfl (.inl rfl))) (fun _ _ _ _ _ => pts_nil) (fun _ _ _ _ _ => (pe_cd c_length hr (by first | decide | omega) (by rfl) (pa_cons (pv 2) pa_nil)))) pa_nil)) (pe_gv (by rfl) g_MOST_BYTES) (nomark _)) (pss_one (ps_ret pe_bl)) pss_nil)
      (pss_one (ps_ret (pe_callB (cr_any rfl) (by rfl) b_any (by decide +kernel) (pa_cons (pe_lc (own := [("span", 3)]) rfl sc_has_bad_size.nd (pi_list (pe_cd c_spans hr (by first | decide | omega) (by rfl) (pa_cons (pv 1) pa_nil))) (blkOk_by (own := [("span", 3)]) (N := ["count", "rows", "row", "span"]) (sc := (defScope s_has_bad_size)) (by decide +kernel)) (fun _ _ _ _ _ => (pg_name (i := 3) sc_has_bad_size.nd rfl (.inl rfl))) (fun _ _ _ _ _ => pts_nil) (fun _ _ _ _ _ => (pe_cmpR op_gt (pe_ix (ix_tupK (K' := K) (by rfl)) (pv 3) pe_int (fun _ _ => rfl)) (pe_gv (by rfl) g_WORDS_IN_ALL) (nomark _)))) pa_nil)))))), ?_⟩
  have yes : ∀ H', Same H H' → sizeF l = true → Q (.bl true) H' := fun H' s e => by
    have := q H' s
    rw [e] at this
    exact this
  have lz : ∀ {α β : Type} (f : α → β) (m : List α), m.length ≤ 1000 → (m.map f).length < sizeLine := fun f m h => by rw [List.length_map]; exact small1000 (by omega)
  (with_reducible refine w_seq ?_)
  (with_reducible refine w_ifS ?_)
  (with_reducible refine w_notT ?_)
  (with_reducible refine w_test ?_)
  (with_reducible refine w_chain ?_)
  (with_reducible refine w_c ?_)
  ((with_reducible refine' w_var ?hv ?_); (case hv => exact rfl))
  (with_reducible refine w_I0 ?_)
  (with_reducible refine w_bl ?_)
  refine w_dec (fun e1 => ?_) (fun e1 => ?_)
  · (with_reducible refine w_c ?_)
    (with_reducible refine w_I0 ?_)
    (with_reducible refine w_bl ?_)
    refine w_ndec (fun e2 => ?_) (fun e2 => ?_)
    · (with_reducible refine w_ret ?_)
      (with_reducible refine w_c ?_)
      exact yes H (Same.refl H) (by unfold sizeF; rw [decide_eq_false (show ¬ (1 ≤ l.length ∧ l.length ≤ 16) by omega)]; rfl)
    · (with_reducible refine w_next ?_)
      (with_reducible refine w_seq ?_)
      (with_reducible refine w_ifS ?_)
      (with_reducible refine w_test ?_)
      (with_reducible refine w_op ?_)
      (with_reducible refine w_cb ?_)
      (with_reducible refine w_cons ?_)
      (with_reducible refine w_lc ?_)
      (with_reducible refine w_iL ?_)
      ((with_reducible refine' w_var ?hv ?_); (case hv => exact rfl))
      have ok1 : 1 ≤ l.length ∧ l.length ≤ 16 := by omega
      refine w_lcL us (fun D i H' => LcAt H ((l.map gLen).map V.int) D i H') (.of hp) LcAt.start (fun D i H' _ h => .of (h.2.1 _ _ hp)) (fun D i x H' hx h => ?_) (fun D H' nD h => ?_)
      · obtain ⟨g, hg, sg⟩ := ha.at hx
        (with_reducible refine w_name ?_)
        refine ⟨rfl, ?_⟩
        (with_reducible refine w_yes ?_)
        (with_reducible refine w_itT ?_)
        (with_reducible refine w_call ?_)
        (with_reducible refine w_cons ?_)
        ((with_reducible refine' w_var ?hv ?_); (case hv => exact rfl))
        (with_reducible refine w_nil ?_)
        refine ⟨x, g, rfl, sg.tk (TK.same h.2.1), ?_⟩
        exact h.fin (by rw [List.getElem?_map, List.getElem?_map, hg]; rfl) (lz _ _ (by rw [List.length_map]; exact hl)) (Same.refl _)
      · obtain ⟨s1, hD⟩ := h.all (by simp [ha.1])
        (with_reducible refine w_nil ?_)
        refine w_sum (l.map gLen) (.of hD) ?_
        (with_reducible refine w_c ?_)
        (with_reducible refine w_I0 ?_)
        (with_reducible refine w_bl ?_)
        refine w_dec (fun e3 => ?_) (fun e3 => ?_)
        · (with_reducible refine w_ret ?_)
          (with_reducible refine w_c ?_)
          exact yes H' s1 (by unfold sizeF; rw [decide_eq_true e3]; simp)
        · (with_reducible refine w_next ?_)
          (with_reducible refine w_ret ?_)
          (with_reducible refine w_cb ?_)
          (with_reducible refine w_cons ?_)
          (with_reducible refine w_lc ?_)
          (with_reducible refine w_iL ?_)
          (with_reducible refine w_call ?_)
          (with_reducible refine w_cons ?_)
          ((with_reducible refine' w_var ?hv ?_); (case hv => exact rfl))
          (with_reducible refine w_nil ?_)
          refine ⟨p, us, l, rfl, s1 _ _ hp, ha.imp (fun v g h => h.tk (TK.same s1)), hl, fun r ws H2 nr s2 hr2 hw => ?_⟩
          refine w_lcL ws (fun D i H' => LcAt H2 ((l.map fun g => decide (4294967296 < (span g).2)).map V.bl) D i H') (.of hr2) LcAt.start (fun D i H' _ h => .of (h.2.1 _ _ hr2)) (fun D2 i x H3 hx h => ?_) (fun D2 H3 nD h => ?_)
          · obtain ⟨pr, hpr, pa⟩ := hw.at hx
            obtain ⟨t, rfl, k⟩ := pa.tk (TK.same h.2.1)
            rw [List.getElem?_map] at hpr
            obtain ⟨g, hg, rfl⟩ := Option.map_eq_some_iff.mp hpr
            (with_reducible refine w_name ?_)
            refine ⟨rfl, ?_⟩
            (with_reducible refine w_yes ?_)
            (with_reducible refine w_itT ?_)
            (with_reducible refine w_op ?_)
            (with_reducible refine w_op ?_)
            ((with_reducible refine' w_var ?hv ?_); (case hv => exact rfl))
            (with_reducible refine w_c ?_)
            ((with_reducible refine' w_ixT ?hh ?ha ?_); (case hh => assumption); (case ha => exact rfl))
            (with_reducible refine w_c ?_)
            (with_reducible refine w_I0 ?_)
            exact h.fin (by rw [List.getElem?_map, List.getElem?_map, hg]; rfl) (lz _ _ (by rw [List.length_map]; exact hl)) (Same.refl _)
          · obtain ⟨s3, hD2⟩ := h.all (by rw [hw.1]; simp)
            (with_reducible refine w_nil ?_)
            refine w_anyB hD2 ?_
            have := q H3 (s1.trans (s2.trans s3))
            have e : sizeF l = (l.map fun g => decide (4294967296 < (span g).2)).any id := by
              unfold sizeF
              rw [decide_eq_true ok1, decide_eq_false e3]
              rfl
            rw [e] at this
            exact this
  · (with_reducible refine w_bl ?_)
    (with_reducible refine w_nF ?_)
    (with_reducible refine w_ret ?_)
    (with_reducible refine w_c ?_)
    exact yes H (Same.refl H) (by unfold sizeF; rw [decide_eq_false (show ¬ (1 ≤ l.length ∧ l.length ≤ 16) by omega)]; rfl)
theorem ok_are_symbols (b_isinstance : mg "isinstance" = none) (b_tuple : mg "tuple" = none) (b_all : mg "all" = none) (b_zip : mg "zip" = none) (c_is_row : Cd P w K mg base 1 "is_row" spIsRow) (c_is_word : Cd P w K mg base 2 "is_word" spIsW) (c_is_name : Cd P w K mg base 1 "is_name" spName) (Z : St1 K mg "_are_symbols" s_are_symbols ["symbols"]) : Cd P w K mg base 3 "_are_symbols" spSyms := by
  refine Z.cd sc_are_symbols (fun vs H Q E h => by obtain ⟨t, ws, l, rfl, _⟩ := h; rfl) (fun f cdv A outer s H vs Q E hr h => ?_)
  obtain ⟨t, ws, l, rfl, ht, ha, hl, hn, q⟩ := h
  refine ⟨_, (pss_cons (ps_if (pt_not (pt_val (pe_callB call_isi (by rfl) b_isinstance (by decide +kernel) (pa_cons (pv 0) (pa_cons (pe_bltn (v := .ty "tuple") (by rfl) b_tuple (by decide +kernel) rfl) pa_nil))))) (pss_one (ps_ret pe_bl)) pss_nil)
      (pss_cons (ps_if (pt_not (pt_val (pe_callB (cr_all rfl) (by rfl) b_all (by decide +kernel) (pa_cons (pe_lc (own := [("pair", 1)]) rfl sc_are_symbols.nd (pi_tup (pv 0)) (blkOk_by (own := [("pair", 1)]) (N := ["symbols", "pair", "following"]) (sc := (defScope s_are_symbols)) (by decide +kernel)) (fun _ _ _ _ _ => (pg_name (i := 1) sc_are_symbols.nd rfl (.inl rfl))) (fun _ _ _ _ _ => pts_nil) (fun _ _ _ _ _ => (pe_and (pe_cd c_is_row hr (by first | decide | omega) (by rfl) (pa_cons (pv 1) (pa_cons pe_int pa_nil))) (pe_and (pe_cd c_is_word hr (by first | decide | omega) (by rfl) (pa_cons (pe_ix (ix_tupK (K' := K) (by rfl)) (pv 1) pe_int (fun _ _ => rfl)) pa_nil)) (pe_one (pe_cd c_is_name hr (by first | decide | omega) (by rfl) (pa_cons (pe_ix (ix_tupK (K' := K) (by rfl)) (pv 1) pe_int (fun _ _ => rfl)) pa_nil))))))) pa_nil)))) (pss_one (ps_ret pe_bl)) pss_nil)
      (pss_one (ps_ret (pe_callB (cr_all rfl) (by rfl) b_all (by decide +kernel) (pa_cons (pe_lc (own := [("pair", 1), ("following", 2)]) rfl sc_are_symbols.nd (pi_zipA (by rfl) b_zip (pa_cons (pv 0) (pa_cons (pe_slice sl_tupA (pv 0) (po_some pe_int) po_none) pa_nil))) (blkOk_by (own := [("pair", 1), ("following", 2)]) (N := ["symbols", "pair", "following"]) (sc := (defScope s_are_symbols)) (by decide +kernel)) (fun _ _ _ _ _ => (pg_tupK (K' := K) (n := 2) (by rfl) (by rfl) (pgs_cons (pg_name (i := 1) sc_are_symbols.nd (by rfl) (Or.inl (by rfl)) (by first | exact Or.inl rfl | exact Or.inr rfl)) (pgs_cons (pg_name (i := 2) sc_are_symbols.nd (by rfl) (Or.inl (by rfl)) (by first | exact Or.inl rfl | exact Or.inr rfl)) pgs_nil)))) (fun _ _ _ _ _ => pts_nil) (fun _ _ _ _ _ => (pe_cmpR (op_lePSK (K' := K) (by rfl) (hu1 hr)) (pv 1) (pv 2) (nomark _)))) pa_nil)))))), ?_⟩
  (with_reducible refine w_seq ?_)
  (with_reducible refine w_ifS ?_)
  (with_reducible refine w_notT ?_)
  (with_reducible refine w_B ?_)
  (with_reducible refine w_cb ?_)
  (with_reducible refine w_cons ?_)
  ((with_reducible refine' w_var ?hv ?_); (case hv => exact rfl))
  (with_reducible refine w_cons ?_)
  (with_reducible refine w_c ?_)
  (with_reducible refine w_nil ?_)
  refine w_isiTT ht ?_
  (with_reducible refine w_bl ?_)
  (with_reducible refine w_nT ?_)
  (with_reducible refine w_next ?_)
  (with_reducible refine w_seq ?_)
  (with_reducible refine w_ifS ?_)
  (with_reducible refine w_notT ?_)
  (with_reducible refine w_B ?_)
  (with_reducible refine w_cb ?_)
  (with_reducible refine w_cons ?_)
  (with_reducible refine w_lc ?_)
  (with_reducible refine w_iT ?_)
  ((with_reducible refine' w_var ?hv ?_); (case hv => exact rfl))
  refine w_lcT ws (fun D i H' => LcAt H ((l.map symB).map V.bl) D i H') (.of ht) LcAt.start (fun D i H' _ h => .of (h.2.1 _ _ ht)) (fun D i x H' hx h => ?_) (fun D H' nD h => ?_)
  · obtain ⟨pr, hpr, pa⟩ := ha.at hx
    obtain ⟨t2, rfl, k⟩ := pa.tk (TK.same h.2.1)
    have hy : ((l.map symB).map V.bl)[i]? = some (.bl (symB pr)) := by rw [List.getElem?_map, List.getElem?_map, hpr]; rfl
    have hz : ((l.map symB).map V.bl).length < sizeLine := by rw [List.length_map, List.length_map]; exact small1000 (by omega)
    (with_reducible refine w_name ?_)
    refine ⟨rfl, ?_⟩
    (with_reducible refine w_yes ?_)
    (with_reducible refine w_itT ?_)
    (with_reducible refine w_andV ?_)
    (with_reducible refine w_call ?_)
    (with_reducible refine w_cons ?_)
    ((with_reducible refine' w_var ?hv ?_); (case hv => exact rfl))
    (with_reducible refine w_cons ?_)
    (with_reducible refine w_c ?_)
    (with_reducible refine w_nil ?_)
    refine ⟨t2, _, 2, rfl, k, ?_⟩
    simp only [List.length_cons, List.length_nil]
    (with_reducible refine w_bl ?_)
    (refine w_decT ?hd ?_; (case hd => decide))
    (with_reducible refine w_andV ?_)
    (with_reducible refine w_call ?_)
    (with_reducible refine w_cons ?_)
    (with_reducible refine w_op ?_)
    ((with_reducible refine' w_var ?hv ?_); (case hv => exact rfl))
    (with_reducible refine w_c ?_)
    ((with_reducible refine' w_ixT ?hh ?ha ?_); (case hh => assumption); (case ha => exact rfl))
    (with_reducible refine w_nil ?_)
    refine ⟨pr.1, rfl, ?_⟩
    unfold symB at hy
    cases e1 : wOk pr.1 with
    | false =>
      rw [e1] at hy
      (with_reducible refine w_bl ?_)
      (with_reducible refine w_itF ?_)
      exact h.fin hy hz (Same.refl _)
    | true =>
      rw [e1] at hy
      (with_reducible refine w_bl ?_)
      (with_reducible refine w_itT ?_)
      (with_reducible refine w_call ?_)
      (with_reducible refine w_cons ?_)
      (with_reducible refine w_op ?_)
      ((with_reducible refine' w_var ?hv ?_); (case hv => exact rfl))
      (with_reducible refine w_c ?_)
      ((with_reducible refine' w_ixT ?hh ?ha ?_); (case hh => assumption); (case ha => exact rfl))
      (with_reducible refine w_nil ?_)
      refine ⟨pr.2, rfl, Nat.le_trans (hn pr (List.mem_of_getElem? hpr)) (by decide), fun H2 s2 => ?_⟩
      exact h.fin hy hz s2
  · obtain ⟨s1, hD⟩ := h.all (by simp [ha.1])
    (with_reducible refine w_nil ?_)
    refine w_allB hD ?_
    have qq : ∀ H', Same H H' → Q (.bl (symOk l)) H' := q
    unfold symOk at qq
    cases e1 : (l.map symB).all id with
    | false =>
      rw [e1] at qq
      (with_reducible refine w_bl ?_)
      (with_reducible refine w_nF ?_)
      (with_reducible refine w_ret ?_)
      (with_reducible refine w_c ?_)
      exact qq _ s1
    | true =>
      rw [e1] at qq
      (with_reducible refine w_bl ?_)
      (with_reducible refine w_nT ?_)
      (with_reducible refine w_next ?_)
      (with_reducible refine w_ret ?_)
      (with_reducible refine w_cb ?_)
      (with_reducible refine w_cons ?_)
      (with_reducible refine w_lc ?_)
      (with_reducible refine w_zA ?_)
      (with_reducible refine w_cons ?_)
      ((with_reducible refine' w_var ?hv ?_); (case hv => exact rfl))
      (with_reducible refine w_cons ?_)
      (with_reducible refine w_sl ?_)
      ((with_reducible refine' w_var ?hv ?_); (case hv => exact rfl))
      (with_reducible refine w_part ?_)
      (with_reducible refine w_c ?_)
      (with_reducible refine w_exI ?_)
      (with_reducible refine w_noPart ?_)
      refine w_slG (.of (s1 _ _ ht)) fun t3 H2 s2 ht3 => ?_
      rw [cut_tail] at ht3
      (with_reducible refine w_nil ?_)
      refine w_lcZTm ws ws.tail ws.tail.length (fun D i H' => LcAt H2 (((l.zip l.tail).map leQ).map V.bl) D i H') (.of (s2 _ _ (s1 _ _ ht))) ht3 (by rw [List.length_tail]; omega) LcAt.start (fun D i H' h => ⟨.of (h.2.1 _ _ (s2 _ _ (s1 _ _ ht))), h.2.1.sqT ht3⟩) (fun D2 i x y T H3 H4 hx hy h nT s4 hT => ?_) (fun D2 H3 nD h => ?_)
      · rw [List.getElem?_tail] at hy
        obtain ⟨p1, h1, a1⟩ := ha.at hx
        obtain ⟨p2, h2, a2⟩ := ha.at hy
        have s24 := (s1.trans s2).trans (h.2.1.trans s4)
        obtain ⟨t1, rfl, k1⟩ := a1.tk (TK.same s24)
        obtain ⟨t2, rfl, k2⟩ := a2.tk (TK.same s24)
        ((with_reducible refine' w_gTup ?hh ?hn ?_); (case hh => assumption); (case hn => exact rfl))
        (with_reducible refine w_gCons ?_)
        (with_reducible refine w_name ?_)
        (with_reducible refine w_gCons ?_)
        (with_reducible refine w_name ?_)
        (with_reducible refine w_gNil ?_)
        refine ⟨rfl, ?_⟩
        (with_reducible refine w_yes ?_)
        (with_reducible refine w_itT ?_)
        (with_reducible refine w_op ?_)
        ((with_reducible refine' w_var ?hv ?_); (case hv => exact rfl))
        ((with_reducible refine' w_var ?hv ?_); (case hv => exact rfl))
        refine w_lePS k1 k2 ?_
        exact h.fin (y := .bl (leP p1.1 p1.2 p2.1 p2.2)) (by rw [List.getElem?_map, List.getElem?_map, zip_at h1 (by rw [List.getElem?_tail]; exact h2)]; rfl) (by rw [List.length_map, List.length_map, List.length_zip]; exact small1000 (by omega)) s4
      · obtain ⟨s3, hD2⟩ := h.all (by rw [List.length_map, List.length_map, List.length_zip, List.length_tail, List.length_tail, ha.1]; omega)
        (with_reducible refine w_nil ?_)
        refine w_allB hD2 ?_
        exact qq _ ((s1.trans s2).trans s3)
end
end K08


open PySem.W
namespace K08
open TL RZ
local macro_rules | `(tactic| walk_at "w1") => `(tactic| first
  | (with_reducible refine w_isS ?_)
  | (with_reducible refine w_isiB ?_)
  | (with_reducible refine w_isBl ?_))
def FlAt (H : Hp) (v : V) (p : Str × Bool) : Prop := ∃ t : Addr, v = .ref t ∧ H t = some (.tup [.str p.1, .bl p.2])
theorem FlAt.tk {H H' : Hp} {v : V} {g : Str × Bool} (h : FlAt H v g) (s : TK H H') : FlAt H' v g := by
  obtain ⟨t, e, a⟩ := h
  exact ⟨t, e, s _ _ a⟩
def selF (p : Str × Bool) : Option Str := if p.2 = true then some p.1 else none
theorem al5 {α : Type} {R : V → α → Prop} {v1 v2 v3 v4 v5 : V} {a1 a2 a3 a4 a5 : α} (h1 : R v1 a1) (h2 : R v2 a2) (h3 : R v3 a3) (h4 : R v4 a4) (h5 : R v5 a5) : Al R [v1, v2, v3, v4, v5] [a1, a2, a3, a4, a5] := by
  refine ⟨rfl, fun i v g hv hg => ?_⟩
  have hi : i < 5 := (List.getElem?_eq_some_iff.mp hv).1
  match i, hi with
  | 0, _ => cases hv; cases hg; exact h1
  | 1, _ => cases hv; cases hg; exact h2
  | 2, _ => cases hv; cases hg; exact h3
  | 3, _ => cases hv; cases hg; exact h4
  | 4, _ => cases hv; cases hg; exact h5
section
variable {P : Program} {w : World} {K : PySem.W.Frag} {mg : Str → Option Value} {base : Heap}
theorem ok_image_faults (b_len : mg "len" = none) (b_isinstance : mg "isinstance" = none) (b_tuple : mg "tuple" = none) (b_all : mg "all" = none) (b_any : mg "any" = none) (c_is_row : Cd P w K mg base 1 "is_row" spIsRow) (c_out_of_order : Cd P w K mg base 3 "_out_of_order" spOut) (c_is_segment : Cd P w K mg base 3 "_is_segment" spIsSeg) (c_has_bad_size : Cd P w K mg base 3 "_has_bad_size" spBadSz) (c_are_symbols : Cd P w K mg base 3 "_are_symbols" spSyms) (Z : St1 K mg "image_faults" s_image_faults ["image"]) : Cd P w K mg base 4 "image_faults" spFaults := by
  refine Z.cd sc_image_faults (fun vs H Q E h => by obtain ⟨t, im, rfl, _⟩ := h; rfl) (fun f cdv A outer s H vs Q E hr h => ?_)
  obtain ⟨t, im, rfl, ⟨ts, ty, vs, ws, ht, hts, hty, hsg, hsy⟩, hz, q⟩ := h
  have hl1 : vs.length ≤ 1000 := by rw [hsg.1]; exact hz.a
  refine ⟨_, (pss_cons (ps_if (pt_not (pt_val (pe_cd c_is_row hr (by first | decide | omega) (by rfl) (pa_cons (pv 0) (pa_cons pe_int pa_nil))))) (pss_one (ps_ret (pe_lst (pa_cons pe_str pa_nil)))) pss_nil)
      (pss_cons (ps_asg (pv 0) (pg_tup rfl (pgs_cons (pg_name (i := 1) sc_image_faults.nd rfl (.inl rfl)) (pgs_cons (pg_name (i := 2) sc_image_faults.nd rfl (.inl rfl)) (pgs_cons (pg_name (i := 3) sc_image_faults.nd rfl (.inl rfl)) pgs_nil)))))
      (pss_cons (ps_set (i := 4) sc_image_faults.nd rfl (.inl rfl) (pe_callB call_isi (by rfl) b_isinstance (by decide +kernel) (pa_cons (pv 1) (pa_cons (pe_bltn (v := .ty "tuple") (by rfl) b_tuple (by decide +kernel) rfl) pa_nil))))
      (Evl.pss_cut (ps_set (i := 5) sc_image_faults.nd rfl (.inl rfl) (pe_ifExp (pt_val (pv 4)) (pe_lc (own := [("row", 7)]) rfl sc_image_faults.nd (pi_tup (pv 1)) (blkOk_by (own := [("row", 7)]) (N := ["image", "segments", "_", "symbols", "listed", "rows", "found", "row", "code", "wrong"]) (sc := (defScope s_image_faults)) (by decide +kernel)) (fun _ _ _ _ _ => (pg_name (i := 7) sc_image_faults.nd rfl (.inl rfl))) (fun _ _ _ _ _ => (pts_one (pt_val (pe_cd c_is_row hr (by first | decide | omega) (by rfl) (pa_cons (pv 7) (pa_cons pe_int pa_nil)))))) (fun _ _ _ _ _ => (pv 7))) (pe_lst pa_nil)))
      (Evl.pss_cut (ps_set (i := 6) sc_image_faults.nd rfl (.inl rfl) (pe_tup (pa_cons (pe_tup (pa_cons pe_str (pa_cons (pe_callB (cr_any rfl) (by rfl) b_any (by decide +kernel) (pa_cons (pe_lc (own := [("row", 7)]) rfl sc_image_faults.nd (pi_list (pv 5)) (blkOk_by (own := [("row", 7)]) (N := ["image", "segments", "_", "symbols", "listed", "rows", "found", "row", "code", "wrong"]) (sc := (defScope s_image_faults)) (by decide +kernel)) (fun _ _ _ _ _ => (pg_name (i := 7) sc_image_faults.nd rfl (.inl rfl))) (fun _ _ _ _ _ => pts_nil) (fun _ _ _ _ _ => (pe_and (pe_cmpR op_isBl (pe_ix (ix_tupK (K' := K) (by rfl)) (pv 7) pe_int (fun _ _ => rfl)) pe_bl (nomark _)) (pe_one (pe_cmpR op_isBl (pe_ix (ix_tupK (K' := K) (by rfl)) (pv 7) pe_int (fun _ _ => rfl)) pe_bl (nomark _)))))) pa_nil)) pa_nil))) (pa_cons (pe_tup (pa_cons pe_str (pa_cons (pe_cd c_out_of_order hr (by first | decide | omega) (by rfl) (pa_cons (pv 5) pa_nil)) pa_nil))) (pa_cons (pe_tup (pa_cons pe_str (pa_cons (pe_or (pe_not (pv 4)) (pe_one (pe_not (pe_callB (cr_all rfl) (by rfl) b_all (by decide +kernel) (pa_cons (pe_lc (own := [("row", 7)]) rfl sc_image_faults.nd (pi_tup (pv 1)) (blkOk_by (own := [("row", 7)]) (N := ["image", "segments", "_", "symbols", "listed", "rows", "found", "row", "code", "wrong"]) (sc := (defScope s_image_faults)) (by decide +kernel)) (fun _ _ _ _ _ => (pg_name (i := 7) sc_image_faults.nd rfl (.inl rfl))) (fun _ _ _ _ _ => pts_nil) (fun _ _ _ _ _ => (pe_cd c_is_segment hr (by first | decide | omega) (by rfl) (pa_cons (pv 7) pa_nil)))) pa_nil))))) pa_nil))) (pa_cons (pe_tup (pa_cons pe_str (pa_cons (pe_and (pv 4) (pe_one (pe_cd c_has_bad_size hr (by first | decide | omega) (by rfl) (pa_cons (pe_callB call_lenQ (by rfl) b_len PySem.boot_len (pa_cons (pv 1) pa_nil)) (pa_cons (pv 5) pa_nil))))) pa_nil))) (pa_cons (pe_tup (pa_cons pe_str (pa_cons (pe_not (pe_cd c_are_symbols hr (by first | decide | omega) (by rfl) (pa_cons (pv 3) pa_nil))) pa_nil))) pa_nil)))))))
      (pss_one (ps_ret (pe_lc (own := [("code", 8), ("wrong", 9)]) rfl sc_image_faults.nd (pi_tup (pv 6)) (blkOk_by (own := [("code", 8), ("wrong", 9)]) (N := ["image", "segments", "_", "symbols", "listed", "rows", "found", "row", "code", "wrong"]) (sc := (defScope s_image_faults)) (by decide +kernel)) (fun _ _ _ _ _ => (pg_tupK (K' := K) (n := 2) (by rfl) (by rfl) (pgs_cons (pg_name (i := 8) sc_image_faults.nd (by rfl) (Or.inl (by rfl)) (by first | exact Or.inl rfl | exact Or.inr rfl)) (pgs_cons (pg_name (i := 9) sc_image_faults.nd (by rfl) (Or.inl (by rfl)) (by first | exact Or.inl rfl | exact Or.inr rfl)) pgs_nil)))) (fun _ _ _ _ _ => (pts_one (pt_val (pv 9)))) (fun _ _ _ _ _ => (pv 8)))))))))), ?_⟩
  (with_reducible refine w_seq ?_)
  (with_reducible refine w_ifS ?_)
  (with_reducible refine w_notT ?_)
  (with_reducible refine w_B ?_)
  (with_reducible refine w_call ?_)
  (with_reducible refine w_cons ?_)
  ((with_reducible refine' w_var ?hv ?_); (case hv => exact rfl))
  (with_reducible refine w_cons ?_)
  (with_reducible refine w_c ?_)
  (with_reducible refine w_nil ?_)
  refine ⟨t, _, 3, rfl, ht, ?_⟩
  (with_reducible refine w_bl ?_)
  refine w_ndec (fun e0 => absurd rfl e0) (fun _ => ?_)
  (with_reducible refine w_next ?_)
  (with_reducible refine w_seq ?_)
  (with_reducible refine w_asg ?_)
  ((with_reducible refine' w_var ?hv ?_); (case hv => exact rfl))
  ((with_reducible refine' w_gTup ?hh ?hn ?_); (case hh => assumption); (case hn => exact rfl))
  (with_reducible refine w_gCons ?_)
  (with_reducible refine w_name ?_)
  (with_reducible refine w_gCons ?_)
  (with_reducible refine w_name ?_)
  (with_reducible refine w_gCons ?_)
  (with_reducible refine w_name ?_)
  (with_reducible refine w_gNil ?_)
  (with_reducible refine w_seq ?_)
  (with_reducible refine w_asg ?_)
  (with_reducible refine w_cb ?_)
  (with_reducible refine w_cons ?_)
  ((with_reducible refine' w_var ?hv ?_); (case hv => exact rfl))
  (with_reducible refine w_cons ?_)
  (with_reducible refine w_c ?_)
  (with_reducible refine w_nil ?_)
  refine w_isiTT hts ?_
  (with_reducible refine w_name ?_)
  refine Evl.q_cut (M := fun σ' H' => Same H H' ∧ ∃ r : Addr, H' r = some (.lst vs) ∧ σ' = [some (.ref t), some (.ref ts), some (.int im.en), some (.ref ty), some (.bl true), some (.ref r), none, none, none, none]) ?_ ?_
  · (with_reducible refine w_asg ?_)
    (with_reducible refine w_if ?_)
    (with_reducible refine w_B ?_)
    ((with_reducible refine' w_var ?hv ?_); (case hv => exact rfl))
    (with_reducible refine w_bl ?_)
    (with_reducible refine w_itT ?_)
    (with_reducible refine w_lc ?_)
    (with_reducible refine w_iT ?_)
    ((with_reducible refine' w_var ?hv ?_); (case hv => exact rfl))
    refine w_lcT vs (fun D i H' => LcAt H vs D i H') (.of hts) LcAt.start (fun D i H' _ h => .of (h.2.1 _ _ hts)) (fun D i x H' hx h => ?_) (fun D H' nD h => ?_)
    · obtain ⟨g, hg, sg⟩ := hsg.at hx
      obtain ⟨t2, tv, rfl, ht2, hv2⟩ := sg.tk (TK.same h.2.1)
      (with_reducible refine w_name ?_)
      refine ⟨rfl, ?_⟩
      (with_reducible refine w_B ?_)
      (with_reducible refine w_call ?_)
      (with_reducible refine w_cons ?_)
      ((with_reducible refine' w_var ?hv ?_); (case hv => exact rfl))
      (with_reducible refine w_cons ?_)
      (with_reducible refine w_c ?_)
      (with_reducible refine w_nil ?_)
      refine ⟨t2, _, 4, rfl, ht2, ?_⟩
      (with_reducible refine w_bl ?_)
      refine w_dec (fun _ => ?_) (fun e0 => absurd rfl e0)
      ((with_reducible refine' w_var ?hv ?_); (case hv => exact rfl))
      exact h.fin hx (small1000 (by omega)) (Same.refl _)
    · obtain ⟨s1, hD⟩ := h.all rfl
      (with_reducible refine w_name ?_)
      exact ⟨s1, D, hD, rfl⟩
  rintro σ' H1 ⟨s1, r, hr1, rfl⟩
  refine Evl.q_cut (M := fun σ' H' => Same H1 H' ∧ ∃ (tf : Addr) (us : List V), H' tf = some (.tup us) ∧ Al (FlAt H') us (flags im) ∧ σ' = [some (.ref t), some (.ref ts), some (.int im.en), some (.ref ty), some (.bl true), some (.ref r), some (.ref tf), none, none, none]) ?_ ?_
  · (with_reducible refine w_asg ?_)
    (with_reducible refine w_tup ?_)
    (with_reducible refine w_cons ?_)
    (with_reducible refine w_tup ?_)
    (with_reducible refine w_cons ?_)
    (with_reducible refine w_c ?_)
    (with_reducible refine w_cons ?_)
    (with_reducible refine w_cb ?_)
    (with_reducible refine w_cons ?_)
    (with_reducible refine w_lc ?_)
    (with_reducible refine w_iL ?_)
    ((with_reducible refine' w_var ?hv ?_); (case hv => exact rfl))
    refine w_lcL vs (fun D i H' => LcAt H1 ((im.sg.map bothB).map V.bl) D i H') (.of hr1) LcAt.start (fun D i H' _ h => .of (h.2.1 _ _ hr1)) (fun D i x H' hx h => ?_) (fun D H2 nD h => ?_)
    · obtain ⟨g, hg, sg⟩ := hsg.at hx
      obtain ⟨t2, tv, rfl, ht2, hv2⟩ := sg.tk (TK.same (s1.trans h.2.1))
      have hy : ((im.sg.map bothB).map V.bl)[i]? = some (.bl (bothB g)) := by rw [List.getElem?_map, List.getElem?_map, hg]; rfl
      have hzz : ((im.sg.map bothB).map V.bl).length < sizeLine := by rw [List.length_map, List.length_map, ← hsg.1]; exact small1000 (by omega)
      (with_reducible refine w_name ?_)
      refine ⟨rfl, ?_⟩
      (with_reducible refine w_yes ?_)
      (with_reducible refine w_itT ?_)
      (with_reducible refine w_andV ?_)
      (with_reducible refine w_op ?_)
      (with_reducible refine w_op ?_)
      ((with_reducible refine' w_var ?hv ?_); (case hv => exact rfl))
      (with_reducible refine w_c ?_)
      ((with_reducible refine' w_ixT ?hh ?ha ?_); (case hh => assumption); (case ha => exact rfl))
      (with_reducible refine w_c ?_)
      (with_reducible refine w_isBl ?_)
      (with_reducible refine w_bl ?_)
      unfold bothB at hy
      cases e1 : g.wr with
      | false =>
        rw [e1] at hy
        (refine w_decF ?hd ?_; (case hd => decide))
        exact h.fin hy hzz (Same.refl _)
      | true =>
        rw [e1] at hy
        (refine w_decT ?hd ?_; (case hd => decide))
        (with_reducible refine w_op ?_)
        (with_reducible refine w_op ?_)
        ((with_reducible refine' w_var ?hv ?_); (case hv => exact rfl))
        (with_reducible refine w_c ?_)
        ((with_reducible refine' w_ixT ?hh ?ha ?_); (case hh => assumption); (case ha => exact rfl))
        (with_reducible refine w_c ?_)
        (with_reducible refine w_isBl ?_)
        cases e2 : g.ex with
        | false =>
          rw [e2] at hy
          exact h.fin hy hzz (Same.refl _)
        | true =>
          rw [e2] at hy
          exact h.fin hy hzz (Same.refl _)
    obtain ⟨s2, hD⟩ := h.all (by simp [hsg.1])
    (with_reducible refine w_nil ?_)
    refine w_anyB hD ?_
    (with_reducible refine w_nil ?_)
    refine w_kTup (by show 2 ≤ sizeLine; decide) fun t1 H3 n1 s3 h1 => ?_
    have s13 := s2.trans s3
    have sA := s1.trans s13
    (with_reducible refine w_cons ?_)
    (with_reducible refine w_tup ?_)
    (with_reducible refine w_cons ?_)
    (with_reducible refine w_c ?_)
    (with_reducible refine w_cons ?_)
    (with_reducible refine w_call ?_)
    (with_reducible refine w_cons ?_)
    ((with_reducible refine' w_var ?hv ?_); (case hv => exact rfl))
    (with_reducible refine w_nil ?_)
    refine ⟨r, vs, im.sg, rfl, s13 _ _ hr1, hsg.imp (fun v g h => h.tk (TK.same sA)), hz.a, fun H4 s4 => ?_⟩
    (with_reducible refine w_nil ?_)
    refine w_kTup (by show 2 ≤ sizeLine; decide) fun t2 H5 n2 s5 h2 => ?_
    have s15 := s13.trans (s4.trans s5)
    have sB := s1.trans s15
    (with_reducible refine w_cons ?_)
    (with_reducible refine w_tup ?_)
    (with_reducible refine w_cons ?_)
    (with_reducible refine w_c ?_)
    (with_reducible refine w_cons ?_)
    (with_reducible refine w_orV ?_)
    (with_reducible refine w_notV ?_)
    ((with_reducible refine' w_var ?hv ?_); (case hv => exact rfl))
    (with_reducible refine w_bl ?_)
    (with_reducible refine w_bl ?_)
    (with_reducible refine w_nT ?_)
    (with_reducible refine w_notV ?_)
    (with_reducible refine w_cb ?_)
    (with_reducible refine w_cons ?_)
    (with_reducible refine w_lc ?_)
    (with_reducible refine w_iT ?_)
    ((with_reducible refine' w_var ?hv ?_); (case hv => exact rfl))
    refine w_lcT vs (fun D i H' => LcAt H5 ((im.sg.map segOk).map V.bl) D i H') (.of (sB _ _ hts)) LcAt.start (fun D i H' _ h => .of (h.2.1 _ _ (sB _ _ hts))) (fun D2 i x H' hx h => ?_) (fun D2 H6 nD2 h => ?_)
    · obtain ⟨g, hg, sg⟩ := hsg.at hx
      (with_reducible refine w_name ?_)
      refine ⟨rfl, ?_⟩
      (with_reducible refine w_yes ?_)
      (with_reducible refine w_itT ?_)
      (with_reducible refine w_call ?_)
      (with_reducible refine w_cons ?_)
      ((with_reducible refine' w_var ?hv ?_); (case hv => exact rfl))
      (with_reducible refine w_nil ?_)
      refine ⟨x, g, rfl, sg.tk (TK.same (sB.trans h.2.1)), hz.b g (List.mem_of_getElem? hg), fun H7 s7 => ?_⟩
      exact h.fin (by rw [List.getElem?_map, List.getElem?_map, hg]; rfl) (by rw [List.length_map, List.length_map, ← hsg.1]; exact small1000 (by omega)) s7
    obtain ⟨s6, hD2⟩ := h.all (by simp [hsg.1])
    (with_reducible refine w_nil ?_)
    refine w_allB hD2 ?_
    (with_reducible refine w_bl ?_)
    (with_reducible refine w_nil ?_)
    refine w_kTup (by show 2 ≤ sizeLine; decide) fun t3 H7 n3 s7 h3 => ?_
    have s17 := s15.trans (s6.trans s7)
    have sC := s1.trans s17
    (with_reducible refine w_cons ?_)
    (with_reducible refine w_tup ?_)
    (with_reducible refine w_cons ?_)
    (with_reducible refine w_c ?_)
    (with_reducible refine w_cons ?_)
    (with_reducible refine w_andV ?_)
    ((with_reducible refine' w_var ?hv ?_); (case hv => exact rfl))
    (with_reducible refine w_bl ?_)
    (with_reducible refine w_itT ?_)
    (with_reducible refine w_call ?_)
    (with_reducible refine w_cons ?_)
    (with_reducible refine w_cb ?_)
    (with_reducible refine w_cons ?_)
    ((with_reducible refine' w_var ?hv ?_); (case hv => exact rfl))
    (with_reducible refine w_nil ?_)
    refine w_lenTs (.of (sC _ _ hts)) ?_
    (with_reducible refine w_cons ?_)
    ((with_reducible refine' w_var ?hv ?_); (case hv => exact rfl))
    (with_reducible refine w_nil ?_)
    refine ⟨r, vs, im.sg, _, rfl, by rw [hsg.1], s17 _ _ hr1, hsg.imp (fun v g h => h.tk (TK.same sC)), hz.a, fun H8 s8 => ?_⟩
    (with_reducible refine w_nil ?_)
    refine w_kTup (by show 2 ≤ sizeLine; decide) fun t4 H9 n4 s9 h4 => ?_
    have s19 := s17.trans (s8.trans s9)
    have sD := s1.trans s19
    (with_reducible refine w_cons ?_)
    (with_reducible refine w_tup ?_)
    (with_reducible refine w_cons ?_)
    (with_reducible refine w_c ?_)
    (with_reducible refine w_cons ?_)
    (with_reducible refine w_notV ?_)
    (with_reducible refine w_call ?_)
    (with_reducible refine w_cons ?_)
    ((with_reducible refine' w_var ?hv ?_); (case hv => exact rfl))
    (with_reducible refine w_nil ?_)
    refine ⟨ty, ws, im.sy, rfl, sD _ _ hty, hsy.imp (fun v g h => h.tk (TK.same sD)), hz.c, hz.d, fun H10 s10 => ?_⟩
    (with_reducible refine w_bl ?_)
    (with_reducible refine w_nil ?_)
    refine w_kTup (by show 2 ≤ sizeLine; decide) fun t5 H11 n5 s11 h5 => ?_
    (with_reducible refine w_nil ?_)
    refine w_kTup (by show 5 ≤ sizeLine; decide) fun tf H12 nf s12 hf => ?_
    (with_reducible refine w_name ?_)
    have sE := s11.trans s12
    refine ⟨s19.trans (s10.trans sE), tf, _, hf, al5 ⟨t1, rfl, ?_⟩ ⟨t2, rfl, ?_⟩ ⟨t3, rfl, ?_⟩ ⟨t4, rfl, ?_⟩ ⟨t5, rfl, ?_⟩, rfl⟩
    · exact sE _ _ (s10 _ _ (s9 _ _ (s8 _ _ (s7 _ _ (s6 _ _ (s5 _ _ (s4 _ _ h1)))))))
    · exact sE _ _ (s10 _ _ (s9 _ _ (s8 _ _ (s7 _ _ (s6 _ _ h2)))))
    · exact sE _ _ (s10 _ _ (s9 _ _ (s8 _ _ h3)))
    · exact sE _ _ (s10 _ _ h4)
    · exact s12 _ _ h5
  rintro σ' H2 ⟨s2, tf, us, hf, hfl, rfl⟩
  (with_reducible refine w_ret ?_)
  (with_reducible refine w_lc ?_)
  (with_reducible refine w_iT ?_)
  ((with_reducible refine' w_var ?hv ?_); (case hv => exact rfl))
  refine w_lcT us (fun D i H' => H2 D = none ∧ Same H2 H' ∧ H' D = some (.lst ((((flags im).take i).filterMap selF).map V.str))) (.of hf) (fun D nD => ⟨nD, Same.new nD, upd_same⟩) (fun D i H' _ h => .of (h.2.1 _ _ hf)) (fun D i x H' hx h => ?_) (fun D H' nD h => ?_)
  · obtain ⟨nD, sm, hD⟩ := h
    obtain ⟨pr, hpr, pa⟩ := hfl.at hx
    obtain ⟨t2, rfl, k⟩ := pa.tk (TK.same sm)
    have tk1 : ((flags im).take (i + 1)).filterMap selF = ((flags im).take i).filterMap selF ++ (match selF pr with | some c => [c] | none => []) := by
      rw [take_more hpr, List.filterMap_append]
      cases e : selF pr <;> simp [List.filterMap, e]
    have il : i < 5 := (List.getElem?_eq_some_iff.mp hpr).1
    ((with_reducible refine' w_gTup ?hh ?hn ?_); (case hh => assumption); (case hn => exact rfl))
    (with_reducible refine w_gCons ?_)
    (with_reducible refine w_name ?_)
    (with_reducible refine w_gCons ?_)
    (with_reducible refine w_name ?_)
    (with_reducible refine w_gNil ?_)
    refine ⟨rfl, ?_⟩
    (with_reducible refine w_B ?_)
    ((with_reducible refine' w_var ?hv ?_); (case hv => exact rfl))
    (with_reducible refine w_bl ?_)
    cases e1 : pr.2 with
    | false =>
      have e2 : selF pr = none := by unfold selF; rw [e1]; rfl
      rw [e2, List.append_nil] at tk1
      (with_reducible refine w_itF ?_)
      exact ⟨nD, sm, by rw [tk1]; exact hD⟩
    | true =>
      have e2 : selF pr = some pr.1 := by unfold selF; rw [e1]; rfl
      rw [e2] at tk1
      (with_reducible refine w_itT ?_)
      ((with_reducible refine' w_var ?hv ?_); (case hv => exact rfl))
      refine ⟨_, hD, ?_, nD, fun y o hy => ?_, ?_⟩
      · rw [List.length_map]
        refine small1000 (Nat.le_trans (List.length_filterMap_le _ _) ?_)
        rw [List.length_take]
        omega
      · rw [upd_ne (ne_of_none hy nD)]; exact sm _ _ hy
      · rw [tk1, List.map_append]; exact upd_same
  · obtain ⟨_, sm, hD⟩ := h
    have e : ((flags im).take us.length).filterMap selF = faults im := by
      rw [hfl.1, List.take_length]
      rfl
    rw [e] at hD
    skip
    exact q D H' ((s1.trans s2).free nD) ((s1.trans s2).trans sm) hD
end
end K08


open PySem.W
namespace K08
open TL RZ
theorem sc_bytes_of_words : FnScope ["words", "found", "word"] ["words"] (defScope s_bytes_of_words) := ⟨rfl, rfl, rfl, by decide +kernel, rfl, by decide +kernel, by decide +kernel⟩
theorem sc_addresses : FnScope ["parts", "found", "free", "part", "behind"] ["parts"] (defScope s_addresses) := ⟨rfl, rfl, rfl, by decide +kernel, rfl, by decide +kernel, by decide +kernel⟩
theorem sc_has_form : FnScope ["form", "word", "instruction"] ["form", "word"] (defScope s_has_form) := ⟨rfl, rfl, rfl, by decide +kernel, rfl, by decide +kernel, by decide +kernel⟩
theorem sc_changed : FnScope ["form", "word", "place", "address", "instruction", "distance", "high", "low"] ["form", "word", "place", "address"] (defScope s_changed) := ⟨rfl, rfl, rfl, by decide +kernel, rfl, by decide +kernel, by decide +kernel⟩
local macro_rules | `(tactic| walk_at "w1") => `(tactic| first
  | (with_reducible refine w_isS ?_)
  | (with_reducible refine w_isNN ?_)
  | (with_reducible refine w_isNR ?_)
  | (with_reducible refine w_notNN ?_)
  | (with_reducible refine w_notNR ?_))
/-! parts -/
structure Part where
  nm : Str
  ws : List Int
  wr : Bool
  ex : Bool
  xs : List (Int × Str)
  ns : List (Int × Str × Str)
def NdAt (H : Hp) (v : V) (p : Int × Str × Str) : Prop := ∃ t : Addr, v = .ref t ∧ H t = some (.tup [.int p.1, .str p.2.1, .str p.2.2])
theorem NdAt.tk {H H' : Hp} {v : V} {g : Int × Str × Str} (h : NdAt H v g) (s : TK H H') : NdAt H' v g := by
  obtain ⟨t, e, a⟩ := h
  exact ⟨t, e, s _ _ a⟩
def PartAt (H : Hp) (v : V) (p : Part) : Prop := ∃ (t tw tx tn : Addr) (xv nv : List V), v = .ref t ∧ H t = some (.tup [.str p.nm, .ref tw, .bl p.wr, .bl p.ex, .ref tx, .ref tn]) ∧ H tw = some (.tup (p.ws.map V.int)) ∧ H tx = some (.tup xv) ∧ H tn = some (.tup nv) ∧ Al (SymAt H) xv p.xs ∧ Al (NdAt H) nv p.ns
theorem PartAt.tk {H H' : Hp} {v : V} {p : Part} (h : PartAt H v p) (s : TK H H') : PartAt H' v p := by
  obtain ⟨t, tw, tx, tn, xv, nv, e, a, b, c, d, x, n⟩ := h
  exact ⟨t, tw, tx, tn, xv, nv, e, s _ _ a, s _ _ b, s _ _ c, s _ _ d, x.imp fun v g h => h.tk s, n.imp fun v g h => h.tk s⟩
/-- a word that is an instruction -/
def InsW (w : Int) : Prop := ∃ (n : Nat) (op fm : Str) (xs : List Int), Ins n op fm xs ∧ encW n fm xs = w
def isForm (f : Str) : Prop := f = ("word" : Str) ∨ f = ("jal" : Str) ∨ f = ("high" : Str) ∨ f = ("low" : Str)
structure PartOk (p : Part) : Prop where
  w1 : 1 ≤ p.ws.length
  w2 : p.ws.length ≤ 16500
  wd : ∀ w ∈ p.ws, 0 ≤ w ∧ w < 4294967296
  x1 : p.xs.length ≤ 10
  x2 : ∀ e ∈ p.xs, 0 ≤ e.1 ∧ e.1 ≤ 100000 ∧ e.1 % 4 = 0 ∧ e.2.length ≤ 100 ∧ PyData.strOk e.2 = true
  n1 : p.ns.length ≤ 10
  n2 : ∀ e ∈ p.ns, ∃ (j : Nat) (w : Int), e.1 = 4 * (j : Int) ∧ p.ws[j]? = some w ∧ InsW w ∧ isForm e.2.1 ∧ e.2.2.length ≤ 100
  n3 : (p.ns.map (·.1)).Nodup
/-- the addresses of the parts, one after another -/
def adN (ps : List Part) : Nat → Int
  | 0 => 4096
  | i + 1 => match ps[i]? with
    | some p => (adN ps i + 4 * (p.ws.length : Int) + 15) / 16 * 16
    | none => adN ps i
def adrs (ps : List Part) : List Int := (List.range ps.length).map (adN ps)
theorem adN_le {ps : List Part} (h : ∀ p ∈ ps, PartOk p) : ∀ i, 4096 ≤ adN ps i ∧ adN ps i ≤ 4096 + 66100 * (i : Int) ∧ adN ps i % 16 = 0
  | 0 => ⟨by show (4096 : Int) ≤ 4096; decide, by show (4096 : Int) ≤ 4096 + 66100 * 0; decide, by show (4096 : Int) % 16 = 0; decide⟩
  | i + 1 => by
    obtain ⟨a, b, c⟩ := adN_le h i
    show 4096 ≤ (match ps[i]? with | some p => (adN ps i + 4 * (p.ws.length : Int) + 15) / 16 * 16 | none => adN ps i) ∧ _
    cases e : ps[i]? with
    | none =>
      have e2 : adN ps (i + 1) = adN ps i := by show (match ps[i]? with | some p => _ | none => adN ps i) = _; rw [e]
      rw [e2]
      refine ⟨a, by omega, c⟩
    | some p =>
      have e2 : adN ps (i + 1) = (adN ps i + 4 * (p.ws.length : Int) + 15) / 16 * 16 := by show (match ps[i]? with | some p => _ | none => adN ps i) = _; rw [e]
      rw [e2]
      have := (h p (List.mem_of_getElem? e)).w2
      refine ⟨by show 4096 ≤ (adN ps i + 4 * (p.ws.length : Int) + 15) / 16 * 16; omega, by omega, by omega⟩
theorem adrs_len (ps : List Part) : (adrs ps).length = ps.length := by unfold adrs; simp
theorem adrs_at {ps : List Part} {i : Nat} (h : i < ps.length) : (adrs ps)[i]? = some (adN ps i) := by
  unfold adrs
  rw [List.getElem?_map, List.getElem?_range h]
  rfl
/-- the bytes of words -/
def bts (w : Int) : List Int := [w % 256, w / 256 % 256, w / 65536 % 256, w / 16777216]
def byt (ws : List Int) : List Int := ws.flatMap bts
theorem byt_len : ∀ ws : List Int, (byt ws).length = 4 * ws.length
  | [] => rfl
  | w :: ws => by
    have := byt_len ws
    unfold byt at *
    rw [List.flatMap_cons, List.length_append, this]
    show 4 + _ = _
    rw [List.length_cons]
    omega
theorem byt_snoc (ws : List Int) (w : Int) : byt (ws ++ [w]) = byt ws ++ bts w := by
  unfold byt
  rw [List.flatMap_append]
  simp
/-! what a need makes of a word -/
inductive Fil
  | form
  | range
  | ok (x : Int)
def hiP (a : Int) : Int := (a + 8192) % 4294967296 / 16384
def fil (f : Str) (w place a : Int) : Fil :=
  if f = ("word" : Str) then .ok a
  else if f = ("jal" : Str) then (if w / 67108864 = 34 then (if -131072 ≤ (a - place) / 4 ∧ (a - place) / 4 ≤ 131071 then .ok (w / 262144 * 262144 + (a - place) / 4 % 262144) else .range) else .form)
  else if f = ("high" : Str) then (if w / 67108864 = 22 then .ok (w / 262144 * 262144 + hiP a) else .form)
  else (if w / 67108864 = 14 ∨ (23 ≤ w / 67108864 ∧ w / 67108864 ≤ 27) then .ok (w / 16384 * 16384 + (a - hiP a * 16384) % 16384) else .form)
def Fil.isForm : Fil → Bool
  | .form => true
  | _ => false
def optI : Option Int → V
  | none => .non
  | some i => .int i
def Fil.opt : Fil → Option Int
  | .ok x => some x
  | _ => none
theorem ins_eq {n n' : Nat} {op op' fm fm' : Str} {xs xs' : List Int} (h : Ins n op fm xs) (h' : Ins n' op' fm' xs') (e : encW n' fm' xs' = encW n fm xs) : n' = n ∧ op' = op ∧ fm' = fm ∧ xs' = xs := by
  obtain ⟨a1, a2, _⟩ := h.fits.enc (n := n)
  obtain ⟨b1, b2, _⟩ := h'.fits.enc (n := n')
  have en : n' = n := by
    rw [e] at b2
    omega
  subst en
  have := h.at_.symm.trans h'.at_
  cases this
  exact ⟨rfl, rfl, rfl, by rw [← b1, ← a1, e]⟩
def spBytes : Sp := fun vs H Q _ => ∃ (p : Addr) (ws : List Int), vs = [.ref p] ∧ H p = some (.lst (ws.map V.int)) ∧ ws.length ≤ 16500 ∧ (∀ w ∈ ws, 0 ≤ w ∧ w < 4294967296) ∧ ∀ r H', H r = none → Same H H' → H' r = some (.lst ((byt ws).map V.int)) → Q (.ref r) H'
def spAdr : Sp := fun vs H Q _ => ∃ (p : Addr) (us : List V) (ps : List Part), vs = [.ref p] ∧ H p = some (.lst us) ∧ Al (PartAt H) us ps ∧ (∀ p ∈ ps, PartOk p) ∧ ps.length ≤ 10 ∧ ∀ r H', H r = none → Same H H' → H' r = some (.lst ((adrs ps).map V.int)) → Q (.ref r) H'
section
variable {P : Program} {w : World} {K : PySem.W.Frag} {mg : Str → Option Value} {base : Heap}
theorem ok_bytes (Z : St1 K mg "bytes_of_words" s_bytes_of_words ["words"]) : Cd P w K mg base 1 "bytes_of_words" spBytes := by
  refine Z.cd sc_bytes_of_words (fun vs H Q E h => by obtain ⟨p, ws, rfl, _⟩ := h; rfl) (fun f cdv A outer s H vs Q E hr h => ?_)
  obtain ⟨p, ws, rfl, hp, hl, hw, q⟩ := h
  refine ⟨_, (pss_cons (ps_set (i := 1) sc_bytes_of_words.nd rfl (.inl rfl) (pe_lst pa_nil))
      (pss_cons (ps_for PassesOwn.never rfl (pi_list (pv 0)) (pg_name (i := 2) sc_bytes_of_words.nd rfl (.inl rfl))
      (pss_one (ps_expr (pe_bm PySem.F.plainAttrs_list PySem.F.slot_list_extend PySem.F.type_list_extend mt_extend (pv 1) (pa_cons (pe_lst (pa_cons (pe_op op_and (pv 2) pe_int) (pa_cons (pe_op op_and (pe_op op_shr (pv 2) pe_int) pe_int) (pa_cons (pe_op op_and (pe_op op_shr (pv 2) pe_int) pe_int) (pa_cons (pe_op op_shr (pv 2) pe_int) pa_nil))))) pa_nil)))))
      (pss_one (ps_ret (pv 1))))), ?_⟩
  (with_reducible refine w_seq ?_)
  (with_reducible refine w_asg ?_)
  (with_reducible refine w_lst ?_)
  (with_reducible refine w_nil ?_)
  refine w_kLst (Nat.zero_le _) fun r H1 nr s1 hr1 => ?_
  (with_reducible refine w_name ?_)
  (with_reducible refine w_seq ?_)
  (with_reducible refine w_for ?_)
  (with_reducible refine w_iL ?_)
  ((with_reducible refine' w_var ?hv ?_); (case hv => exact rfl))
  refine w_forL (ws.map V.int) (fun i σ H' => Same H H' ∧ H' r = some (.lst ((byt (ws.take i)).map V.int)) ∧ ∃ v2 : Option V, σ = [some (.ref p), some (.ref r), v2]) (.of (s1 _ _ hp)) ⟨s1, hr1, _, rfl⟩ (fun i σ H' _ h => .of (h.1 _ _ hp)) (fun i x σ H2 hx h => ?_) (fun σ H2 h => ?_)
  · obtain ⟨s2, hr2, v2, rfl⟩ := h
    obtain ⟨n, hn, rfl⟩ := map_get hx
    obtain ⟨n0, n1⟩ := hw n (List.mem_of_getElem? hn)
    have il : i < ws.length := (List.getElem?_eq_some_iff.mp hn).1
    have e1 : Builtin.bitAnd n 255 = n % 256 := PySem.W.kbt_mask n 8
    have e2 : Builtin.bitAnd (n / 2 ^ (8 : Int).toNat) 255 = n / 256 % 256 := PySem.W.kbt_mask _ 8
    have e3 : Builtin.bitAnd (n / 2 ^ (16 : Int).toNat) 255 = n / 65536 % 256 := PySem.W.kbt_mask _ 8
    (with_reducible refine w_name ?_)
    (with_reducible refine w_drop ?_)
    (with_reducible refine w_bm ?_)
    ((with_reducible refine' w_var ?hv ?_); (case hv => exact rfl))
    ((with_reducible refine' w_tyL ?hh ?_); (case hh => assumption))
    (with_reducible refine w_cons ?_)
    (with_reducible refine w_lst ?_)
    (with_reducible refine w_cons ?_)
    (with_reducible refine w_op ?_)
    ((with_reducible refine' w_var ?hv ?_); (case hv => exact rfl))
    (with_reducible refine w_c ?_)
    (with_reducible refine w_I0 ?_)
    (with_reducible refine w_cons ?_)
    (with_reducible refine w_op ?_)
    (with_reducible refine w_op ?_)
    ((with_reducible refine' w_var ?hv ?_); (case hv => exact rfl))
    (with_reducible refine w_c ?_)
    ((with_reducible refine w_I ?hc ?_); (case hc => walk_at "side"))
    (with_reducible refine w_c ?_)
    (with_reducible refine w_I0 ?_)
    (with_reducible refine w_cons ?_)
    (with_reducible refine w_op ?_)
    (with_reducible refine w_op ?_)
    ((with_reducible refine' w_var ?hv ?_); (case hv => exact rfl))
    (with_reducible refine w_c ?_)
    ((with_reducible refine w_I ?hc ?_); (case hc => walk_at "side"))
    (with_reducible refine w_c ?_)
    (with_reducible refine w_I0 ?_)
    (with_reducible refine w_cons ?_)
    (with_reducible refine w_op ?_)
    ((with_reducible refine' w_var ?hv ?_); (case hv => exact rfl))
    (with_reducible refine w_c ?_)
    ((with_reducible refine w_I ?hc ?_); (case hc => walk_at "side"))
    (with_reducible refine w_nil ?_)
    refine w_kLst (by show 4 ≤ sizeLine; decide) fun l4 H3 n4 s3 h4 => ?_
    rw [e1, e2, e3] at h4
    have h4' : H3 l4 = some (.lst ((bts n).map V.int)) := h4
    have hr3 := s3 _ _ hr2
    (with_reducible refine w_nil ?_)
    refine w_extend hr3 h4' (by rw [List.length_map, List.length_map, byt_len, List.length_take]; exact Nat.le_trans (show _ ≤ 70000 by show 4 * min i ws.length + 4 ≤ 70000; omega) (by decide)) fun H4 hr4 b4 => ?_
    skip
    have nrH : H r = none := nr
    refine ⟨fun b o hb => b4 b o (fun z => by rw [z, nrH] at hb; cases hb) (s3 _ _ (s2 _ _ hb)), ?_, _, rfl⟩
    rw [hr4, take_more hn, byt_snoc, List.map_append]
  · obtain ⟨s2, hr2, v2, rfl⟩ := h
    rw [List.length_map, List.take_length] at hr2
    (with_reducible refine w_ret ?_)
    ((with_reducible refine' w_var ?hv ?_); (case hv => exact rfl))
    exact q r H2 nr s2 hr2
theorem ok_addresses (b_len : mg "len" = none) (g_FIRST_ADDRESS : GV mg "FIRST_ADDRESS" (.int 4096)) (g_BETWEEN_PARTS : GV mg "BETWEEN_PARTS" (.int 16)) (Z : St1 K mg "_addresses" s_addresses ["parts"]) : Cd P w K mg base 1 "_addresses" spAdr := by
  refine Z.cd sc_addresses (fun vs H Q E h => by obtain ⟨p, us, ps, rfl, _⟩ := h; rfl) (fun f cdv A outer s H vs Q E hr h => ?_)
  obtain ⟨p, us, ps, rfl, hp, ha, hok, hl, q⟩ := h
  refine ⟨_, (pss_cons (ps_set (i := 1) sc_addresses.nd rfl (.inl rfl) (pe_lst pa_nil))
      (pss_cons (ps_set (i := 2) sc_addresses.nd rfl (.inl rfl) (pe_gv (by rfl) g_FIRST_ADDRESS))
      (pss_cons (ps_for PassesOwn.never rfl (pi_list (pv 0)) (pg_name (i := 3) sc_addresses.nd rfl (.inl rfl))
      (pss_cons (ps_expr (pe_bm PySem.F.plainAttrs_list PySem.F.slot_list_append PySem.F.type_list_append mt_append (pv 1) (pa_cons (pv 2) pa_nil)))
      (pss_cons (ps_set (i := 4) sc_addresses.nd rfl (.inl rfl) (pe_op op_add (pv 2) (pe_op op_mul pe_int (pe_callB call_lenQ (by rfl) b_len PySem.boot_len (pa_cons (pe_ix ix_tup (pv 3) pe_int (fun _ _ => rfl)) pa_nil)))))
      (pss_one (ps_set (i := 2) sc_addresses.nd rfl (.inl rfl) (pe_op op_mul (pe_op op_fdiv (pe_op op_sub (pe_op op_add (pv 4) (pe_gv (by rfl) g_BETWEEN_PARTS)) pe_int) (pe_gv (by rfl) g_BETWEEN_PARTS)) (pe_gv (by rfl) g_BETWEEN_PARTS)))))))
      (pss_one (ps_ret (pv 1)))))), ?_⟩
  (with_reducible refine w_seq ?_)
  (with_reducible refine w_asg ?_)
  (with_reducible refine w_lst ?_)
  (with_reducible refine w_nil ?_)
  refine w_kLst (Nat.zero_le _) fun r H1 nr s1 hr1 => ?_
  (with_reducible refine w_name ?_)
  (with_reducible refine w_seq ?_)
  (with_reducible refine w_asg ?_)
  (with_reducible refine w_c ?_)
  (with_reducible refine w_name ?_)
  (with_reducible refine w_seq ?_)
  (with_reducible refine w_for ?_)
  (with_reducible refine w_iL ?_)
  ((with_reducible refine' w_var ?hv ?_); (case hv => exact rfl))
  refine w_forL us (fun i σ H' => Same H H' ∧ H' r = some (.lst (((adrs ps).take i).map V.int)) ∧ ∃ v3 v4 : Option V, σ = [some (.ref p), some (.ref r), some (.int (adN ps i)), v3, v4]) (.of (s1 _ _ hp)) ⟨s1, hr1, _, _, rfl⟩ (fun i σ H' _ h => .of (h.1 _ _ hp)) (fun i x σ H2 hx h => ?_) (fun σ H2 h => ?_)
  · obtain ⟨s2, hr2, v3, v4, rfl⟩ := h
    obtain ⟨g, hg, pa⟩ := ha.at hx
    obtain ⟨t, tw, tx, tn, xv, nv, rfl, ht, htw, _⟩ := pa.tk (TK.same s2)
    have il : i < ps.length := (List.getElem?_eq_some_iff.mp hg).1
    obtain ⟨a0, a1, a2⟩ := adN_le hok i
    have g2 := (hok g (List.mem_of_getElem? hg)).w2
    have e : adN ps (i + 1) = (adN ps i + 4 * (g.ws.length : Int) + 15) / 16 * 16 := by show (match ps[i]? with | some p => _ | none => adN ps i) = _; rw [hg]
    (with_reducible refine w_name ?_)
    (with_reducible refine w_seq ?_)
    (with_reducible refine w_drop ?_)
    (with_reducible refine w_bm ?_)
    ((with_reducible refine' w_var ?hv ?_); (case hv => exact rfl))
    ((with_reducible refine' w_tyL ?hh ?_); (case hh => assumption))
    (with_reducible refine w_cons ?_)
    ((with_reducible refine' w_var ?hv ?_); (case hv => exact rfl))
    (with_reducible refine w_nil ?_)
    refine w_append hr2 (by rw [List.length_map, List.length_take, adrs_len]; exact small1000 (by omega)) fun H3 hr3 b3 => ?_
    have nrH : H r = none := nr
    have s3 : Same H H3 := fun b o hb => b3 b o (fun z => by rw [z, nrH] at hb; cases hb) (s2 _ _ hb)
    have ht3 := b3 t _ (ne_of ht hr2 (by intro z; cases z)) ht
    have htw3 := b3 tw _ (ne_of htw hr2 (by intro z; cases z)) htw
    (with_reducible refine w_seq ?_)
    (with_reducible refine w_asg ?_)
    (with_reducible refine w_op ?_)
    ((with_reducible refine' w_var ?hv ?_); (case hv => exact rfl))
    (with_reducible refine w_op ?_)
    (with_reducible refine w_c ?_)
    (with_reducible refine w_cb ?_)
    (with_reducible refine w_cons ?_)
    (with_reducible refine w_op ?_)
    ((with_reducible refine' w_var ?hv ?_); (case hv => exact rfl))
    (with_reducible refine w_c ?_)
    ((with_reducible refine' w_ixT ?hh ?ha ?_); (case hh => assumption); (case ha => exact rfl))
    (with_reducible refine w_nil ?_)
    refine w_lenTs (.of htw3) ?_
    rw [List.length_map]
    ((with_reducible refine w_I ?hc ?_); (case hc => walk_at "side"))
    (with_reducible refine w_I0 ?_)
    (with_reducible refine w_name ?_)
    (with_reducible refine w_asg ?_)
    (with_reducible refine w_op ?_)
    (with_reducible refine w_op ?_)
    (with_reducible refine w_op ?_)
    (with_reducible refine w_op ?_)
    ((with_reducible refine' w_var ?hv ?_); (case hv => exact rfl))
    (with_reducible refine w_c ?_)
    (with_reducible refine w_I0 ?_)
    (with_reducible refine w_c ?_)
    (with_reducible refine w_I0 ?_)
    (with_reducible refine w_c ?_)
    ((with_reducible refine w_I ?hc ?_); (case hc => walk_at "side"))
    (with_reducible refine w_c ?_)
    ((with_reducible refine w_I ?hc ?_); (case hc => walk_at "side"))
    (with_reducible refine w_name ?_)
    have e16 : adN ps i + 4 * (g.ws.length : Int) + 16 - 1 = adN ps i + 4 * (g.ws.length : Int) + 15 := by omega
    refine ⟨s3, by rw [hr3, take_more (adrs_at il), List.map_append]; rfl, _, _, by rw [e, ← e16]; rfl⟩
  · obtain ⟨s2, hr2, v3, v4, rfl⟩ := h
    (with_reducible refine w_ret ?_)
    ((with_reducible refine' w_var ?hv ?_); (case hv => exact rfl))
    rw [ha.1, ← adrs_len, List.take_length] at hr2
    exact q r H2 nr s2 hr2
end
end K08


open PySem.W
namespace K08
open TL RZ
local macro_rules | `(tactic| walk_at "w1") => `(tactic| first
  | (with_reducible refine w_isS ?_)
  | (with_reducible refine w_isNN ?_)
  | (with_reducible refine w_isNR ?_)
  | (with_reducible refine w_notNN ?_)
  | (with_reducible refine w_notNR ?_))
def lowL : List Str := ["addi", "lw", "lb", "lbu", "sw", "sb"]
structure OfAt (K : PySem.W.Frag) (w : World) (mg : Str → Option Value) (O : Addr) : Prop where
  g : GV mg "OPS_OF_FORMS" (.ref O)
  jal : ∃ t, KDct K w O "jal" (.ref t) ∧ WTup K t [.str "jal"]
  hi : ∃ t, KDct K w O "high" (.ref t) ∧ WTup K t [.str "lui"]
  lo : ∃ t, KDct K w O "low" (.ref t) ∧ WTup K t (lowL.map V.str)
theorem op_jal : ∀ n, n < 38 → ∀ p : Str × Str, opsT[n]? = some p → (inV (.str p.1) [.str "jal"] = decide (n + 1 = 34) ∧ inV (.str p.1) [.str "lui"] = decide (n + 1 = 22) ∧ inV (.str p.1) (lowL.map V.str) = decide (n + 1 = 14 ∨ (23 ≤ n + 1 ∧ n + 1 ≤ 27)) ∧ ((n + 1 = 34) → p.2 = "dj") ∧ ((n + 1 = 22) → p.2 = "du") ∧ ((n + 1 = 14 ∨ (23 ≤ n + 1 ∧ n + 1 ≤ 27)) → (p.2 = "dsi" ∨ p.2 = "ssi"))) := by
  have h : ∀ n, n < 38 → (match opsT[n]? with | some p => decide (inV (.str p.1) [.str "jal"] = decide (n + 1 = 34) ∧ inV (.str p.1) [.str "lui"] = decide (n + 1 = 22) ∧ inV (.str p.1) (lowL.map V.str) = decide (n + 1 = 14 ∨ (23 ≤ n + 1 ∧ n + 1 ≤ 27)) ∧ ((n + 1 = 34) → p.2 = "dj") ∧ ((n + 1 = 22) → p.2 = "du") ∧ ((n + 1 = 14 ∨ (23 ≤ n + 1 ∧ n + 1 ≤ 27)) → (p.2 = "dsi" ∨ p.2 = "ssi"))) | none => true) = true := by decide +kernel
  intro n hn p e
  have := h n hn
  rw [e] at this
  exact of_decide_eq_true this
def okF (f : Str) (x : Int) : Bool :=
  if f = ("word" : Str) then true
  else if f = ("jal" : Str) then decide (x / 67108864 = 34)
  else if f = ("high" : Str) then decide (x / 67108864 = 22)
  else decide (x / 67108864 = 14 ∨ (23 ≤ x / 67108864 ∧ x / 67108864 ≤ 27))
theorem fil_form (f : Str) (x p a : Int) : (fil f x p a).isForm = !okF f x := by
  unfold fil okF
  by_cases h1 : f = ("word" : Str)
  · rw [if_pos h1, if_pos h1]; rfl
  · rw [if_neg h1, if_neg h1]
    by_cases h2 : f = ("jal" : Str)
    · rw [if_pos h2, if_pos h2]
      by_cases h3 : x / 67108864 = 34
      · rw [if_pos h3, decide_eq_true h3]
        split <;> rfl
      · rw [if_neg h3, decide_eq_false h3]; rfl
    · rw [if_neg h2, if_neg h2]
      by_cases h3 : f = ("high" : Str)
      · rw [if_pos h3, if_pos h3]
        by_cases h4 : x / 67108864 = 22
        · rw [if_pos h4, decide_eq_true h4]; rfl
        · rw [if_neg h4, decide_eq_false h4]; rfl
      · rw [if_neg h3, if_neg h3]
        by_cases h4 : x / 67108864 = 14 ∨ (23 ≤ x / 67108864 ∧ x / 67108864 ≤ 27)
        · rw [if_pos h4, decide_eq_true h4]; rfl
        · rw [if_neg h4, decide_eq_false h4]; rfl
theorem cut_neg (xs : List V) (h : xs ≠ []) : cutV xs none (some (-1)) = xs.dropLast := by
  have hl := List.length_pos_iff.mpr h
  unfold cutV HT.sIx
  simp only [List.drop_zero, List.length_map]
  rw [if_pos (by decide)]
  have e : ((-1 : Int) + (xs.length : Int)).toNat - 0 = xs.length - 1 := by omega
  simp only [e, List.dropLast_eq_take]
theorem dl_ins {op : Str} {xs : List Int} (h : xs ≠ []) : (insV op xs).dropLast = insV op xs.dropLast := by
  unfold insV
  rw [List.dropLast_cons_of_ne_nil (by simpa using h), List.map_dropLast]
theorem ins_snoc {op : Str} {xs : List Int} (d : Int) : insV op xs ++ [.int d] = insV op (xs ++ [d]) := by
  unfold insV
  rw [List.map_append]
  rfl
def spHasF : Sp := fun vs H Q _ => ∃ (f : Str) (x : Int), vs = [.str f, .int x] ∧ isForm f ∧ InsW x ∧ x < 4294967296 ∧ ∀ H', Same H H' → Q (.bl (okF f x)) H'
def spChg : Sp := fun vs H Q _ => ∃ (f : Str) (x p a : Int), vs = [.str f, .int x, .int p, .int a] ∧ isForm f ∧ InsW x ∧ x < 4294967296 ∧ okF f x = true ∧ 0 ≤ p ∧ p ≤ 10000000 ∧ 0 ≤ a ∧ a ≤ 10000000 ∧ ∀ H', Same H H' → Q (optI (fil f x p a).opt) H'
theorem dec_ins {x : Int} {n : Nat} {op fm : Str} {xs : List Int} (h : Ins n op fm xs) (e : encW n fm xs = x) {v : V} {H' : Hp} (d : DecOf x v H') : ∃ t, v = .ref t ∧ H' t = some (.tup (insV op xs)) := by
  rcases d with ⟨n', op', fm', xs', t, h', e', rfl, ht⟩ | ⟨no, _⟩
  · obtain ⟨rfl, rfl, rfl, rfl⟩ := ins_eq h h' (e'.trans e.symm)
    exact ⟨t, rfl, ht⟩
  · exact absurd e (no _ _ _ _ h)
section
variable {P : Program} {w : World} {K : PySem.W.Frag} {mg : Str → Option Value} {base : Heap}
theorem ok_has_form {O : Addr} (T : OfAt K w mg O) (c_decode : Cd P w K mg base 3 "decode" spDec) (Z : St1 K mg "_has_form" s_has_form ["form", "word"]) : Cd P w K mg base 4 "_has_form" spHasF := by
  obtain ⟨g_OPS_OF_FORMS, ⟨tj, j1, j2⟩, ⟨th, h1, h2⟩, ⟨tl, l1, l2⟩⟩ := T
  refine Z.cd sc_has_form (fun vs H Q E h => by obtain ⟨p, x, rfl, _⟩ := h; rfl) (fun f cdv A outer s H vs Q E hr h => ?_)
  obtain ⟨fo, x, rfl, hf, ⟨n, op, fm, xs, hi, e⟩, hx, q⟩ := h
  obtain ⟨e1, e2, e3⟩ := hi.fits.enc (n := n)
  rw [e] at e2 e3
  have hn := hi.n38
  obtain ⟨o1, o2, o3, _⟩ := op_jal n hn _ hi.at_
  refine ⟨_, (pss_cons (ps_if (pt_cmpR op_eq (pv 0) pe_str (nomark _)) (pss_one (ps_ret pe_bl)) pss_nil)
      (pss_cons (ps_set (i := 2) sc_has_form.nd rfl (.inl rfl) (pe_cd c_decode hr (by first | decide | omega) (by rfl) (pa_cons (pv 1) pa_nil)))
      (pss_one (ps_ret (pe_and (pe_cmpR op_notNQ (pv 2) pe_non (nomark _)) (pe_one (pe_cmpR op_in_seq (pe_ix ix_tup (pv 2) pe_int (fun _ _ => rfl)) (pe_ix ix_kdict (pe_gv (by rfl) g_OPS_OF_FORMS) (pv 0) (fun _ _ => rfl)) rfl))))))), ?_⟩
  (with_reducible refine w_seq ?_)
  (with_reducible refine w_ifS ?_)
  (with_reducible refine w_test ?_)
  (with_reducible refine w_op ?_)
  ((with_reducible refine' w_var ?hv ?_); (case hv => exact rfl))
  (with_reducible refine w_c ?_)
  (with_reducible refine w_eqS ?_)
  (with_reducible refine w_bl ?_)
  refine w_dec (fun ew => ?_) (fun ew => ?_)
  · (with_reducible refine w_ret ?_)
    (with_reducible refine w_c ?_)
    have := q H (Same.refl H)
    unfold okF at this
    rw [if_pos (show fo = ("word" : Str) from ew)] at this
    exact this
  · (with_reducible refine w_next ?_)
    (with_reducible refine w_seq ?_)
    (with_reducible refine w_asg ?_)
    (with_reducible refine w_call ?_)
    (with_reducible refine w_cons ?_)
    ((with_reducible refine' w_var ?hv ?_); (case hv => exact rfl))
    (with_reducible refine w_nil ?_)
    refine ⟨x, rfl, e3, hx, fun v H1 s1 dv => ?_⟩
    obtain ⟨t, rfl, ht⟩ := dec_ins hi e dv
    (with_reducible refine w_name ?_)
    (with_reducible refine w_ret ?_)
    (with_reducible refine w_andV ?_)
    (with_reducible refine w_op ?_)
    ((with_reducible refine' w_var ?hv ?_); (case hv => exact rfl))
    (with_reducible refine w_c ?_)
    (with_reducible refine w_notNR ?_)
    (with_reducible refine w_bl ?_)
    (with_reducible refine w_itT ?_)
    (with_reducible refine w_op ?_)
    (with_reducible refine w_op ?_)
    ((with_reducible refine' w_var ?hv ?_); (case hv => exact rfl))
    (with_reducible refine w_c ?_)
    refine w_ixTs (.of ht) (atI_of (v := .str op) (by decide) rfl) ?_
    (with_reducible refine w_op ?_)
    (with_reducible refine w_c ?_)
    ((with_reducible refine' w_var ?hv ?_); (case hv => exact rfl))
    have qq := q H1 s1
    unfold okF at qq
    rw [if_neg (show ¬ fo = ("word" : Str) from ew), e2] at qq
    rcases hf with rfl | rfl | rfl | rfl
    · exact absurd rfl ew
    · rw [if_pos rfl] at qq
      refine w_ixD j1 ?_
      refine w_inT (j2.sq H1) rfl (by decide +kernel) o1 ?_
      have : decide ((n : Int) + 1 = 34) = decide (n + 1 = 34) := decide_eq_decide.mpr (by omega)
      rw [this] at qq
      exact qq
    · rw [if_neg (by decide +kernel), if_pos rfl] at qq
      refine w_ixD h1 ?_
      refine w_inT (h2.sq H1) rfl (by decide +kernel) o2 ?_
      have : decide ((n : Int) + 1 = 22) = decide (n + 1 = 22) := decide_eq_decide.mpr (by omega)
      rw [this] at qq
      exact qq
    · rw [if_neg (by decide +kernel), if_neg (by decide +kernel)] at qq
      refine w_ixD l1 ?_
      refine w_inT (l2.sq H1) rfl (by decide +kernel) o3 ?_
      have : decide ((n : Int) + 1 = 14 ∨ (23 ≤ (n : Int) + 1 ∧ (n : Int) + 1 ≤ 27)) = decide (n + 1 = 14 ∨ (23 ≤ n + 1 ∧ n + 1 ≤ 27)) := decide_eq_decide.mpr (by omega)
      rw [this] at qq
      exact qq
theorem ok_changed (g_HALF_OF_LOW : GV mg "HALF_OF_LOW" (.int 8192)) (g_MASK : GV mg "MASK" (.int 4294967295)) (c_decode : Cd P w K mg base 3 "decode" spDec) (c_encode : Cd P w K mg base 1 "encode" (spEnc K)) (c_is_operand : Cd P w K mg base 2 "is_operand" spIsOp) (Z : St1 K mg "_changed" s_changed ["form", "word", "place", "address"]) : Cd P w K mg base 4 "_changed" spChg := by
  refine Z.cd sc_changed (fun vs H Q E h => by obtain ⟨f, x, p, a, rfl, _⟩ := h; rfl) (fun f cdv A outer s H vs Q E hr h => ?_)
  obtain ⟨fo, x, p, a, rfl, hf, ⟨n, op, fm, xs, hi, e⟩, hx, hok, p0, p1, a0, a1, q⟩ := h
  obtain ⟨e1, e2, e3⟩ := hi.fits.enc (n := n)
  rw [e] at e2 e3
  have hn := hi.n38
  obtain ⟨_, _, _, f1, f2, f3⟩ := op_jal n hn _ hi.at_
  have xne : xs ≠ [] := by intro z; cases hi.fits <;> cases z
  have ine : insV op xs ≠ [] := by unfold insV; exact List.cons_ne_nil _ _
  have b1 : Builtin.bitAnd (a + 8192) 4294967295 = (a + 8192) % 4294967296 := PySem.W.kbt_mask _ 32
  have b2 : Builtin.bitAnd (a + 8192) (2 * 8192 - 1) = (a + 8192) % 16384 := PySem.W.kbt_mask _ 14
  have b3 : (a + 8192) % 4294967296 / 2 ^ (14 : Int).toNat = hiP a := rfl
  refine ⟨_, (pss_cons (ps_if (pt_cmpR op_eq (pv 0) pe_str (nomark _)) (pss_one (ps_ret (pv 3))) pss_nil)
      (pss_cons (ps_set (i := 4) sc_changed.nd rfl (.inl rfl) (pe_cd c_decode hr (by first | decide | omega) (by rfl) (pa_cons (pv 1) pa_nil)))
      (pss_cons (ps_if (pt_cmpR op_eq (pv 0) pe_str (nomark _)) (pss_cons (ps_set (i := 5) sc_changed.nd rfl (.inl rfl) (pe_op op_fdiv (pe_op op_sub (pv 3) (pv 2)) pe_int))
      (pss_one (ps_ret (pe_ifExp (pt_val (pe_cd c_is_operand hr (by first | decide | omega) (by rfl) (pa_cons pe_str (pa_cons (pv 5) pa_nil)))) (pe_cd c_encode hr (by first | decide | omega) (by rfl) (pa_cons (pe_tup (StX.pa_star (pe_slice sl_tupA (pv 4) po_none (po_some (pe_un un_neg pe_int))) (pa_cons (pv 5) pa_nil))) pa_nil)) pe_non)))) pss_nil)
      (pss_cons (ps_set (i := 6) sc_changed.nd rfl (.inl rfl) (pe_op op_shr (pe_op op_and (pe_op op_add (pv 3) (pe_gv (by rfl) g_HALF_OF_LOW)) (pe_gv (by rfl) g_MASK)) pe_int))
      (pss_cons (ps_if (pt_cmpR op_eq (pv 0) pe_str (nomark _)) (pss_one (ps_ret (pe_cd c_encode hr (by first | decide | omega) (by rfl) (pa_cons (pe_tup (StX.pa_star (pe_slice sl_tupA (pv 4) po_none (po_some (pe_un un_neg pe_int))) (pa_cons (pv 6) pa_nil))) pa_nil)))) pss_nil)
      (pss_cons (ps_set (i := 7) sc_changed.nd rfl (.inl rfl) (pe_op op_sub (pe_op op_and (pe_op op_add (pv 3) (pe_gv (by rfl) g_HALF_OF_LOW)) (pe_op op_sub (pe_op op_mul pe_int (pe_gv (by rfl) g_HALF_OF_LOW)) pe_int)) (pe_gv (by rfl) g_HALF_OF_LOW)))
      (pss_one (ps_ret (pe_cd c_encode hr (by first | decide | omega) (by rfl) (pa_cons (pe_tup (StX.pa_star (pe_slice sl_tupA (pv 4) po_none (po_some (pe_un un_neg pe_int))) (pa_cons (pv 7) pa_nil))) pa_nil)))))))))), ?_⟩
  (with_reducible refine w_seq ?_)
  (with_reducible refine w_ifS ?_)
  (with_reducible refine w_test ?_)
  (with_reducible refine w_op ?_)
  ((with_reducible refine' w_var ?hv ?_); (case hv => exact rfl))
  (with_reducible refine w_c ?_)
  (with_reducible refine w_eqS ?_)
  (with_reducible refine w_bl ?_)
  unfold okF at hok
  refine w_dec (fun ew => ?_) (fun ew => ?_)
  · (with_reducible refine w_ret ?_)
    ((with_reducible refine' w_var ?hv ?_); (case hv => exact rfl))
    have := q H (Same.refl H)
    unfold fil at this
    rw [if_pos (show fo = ("word" : Str) from ew)] at this
    exact this
  · (with_reducible refine w_next ?_)
    (with_reducible refine w_seq ?_)
    (with_reducible refine w_asg ?_)
    (with_reducible refine w_call ?_)
    (with_reducible refine w_cons ?_)
    ((with_reducible refine' w_var ?hv ?_); (case hv => exact rfl))
    (with_reducible refine w_nil ?_)
    refine ⟨x, rfl, e3, hx, fun v H1 s1 dv => ?_⟩
    obtain ⟨t, rfl, ht⟩ := dec_ins hi e dv
    (with_reducible refine w_name ?_)
    (with_reducible refine w_seq ?_)
    (with_reducible refine w_ifS ?_)
    (with_reducible refine w_test ?_)
    (with_reducible refine w_op ?_)
    ((with_reducible refine' w_var ?hv ?_); (case hv => exact rfl))
    (with_reducible refine w_c ?_)
    (with_reducible refine w_eqS ?_)
    (with_reducible refine w_bl ?_)
    rw [if_neg (show ¬ fo = ("word" : Str) from ew)] at hok
    have qq := fun H' (s : Same H1 H') => q H' (s1.trans s)
    unfold fil at qq
    simp only [if_neg (show ¬ fo = ("word" : Str) from ew)] at qq
    refine w_dec (fun ej => ?_) (fun ej => ?_)
    · have ej' : fo = ("jal" : Str) := ej
      rw [if_pos ej'] at hok
      have h34 := of_decide_eq_true hok
      simp only [if_pos ej', if_pos h34] at qq
      have efm : fm = ("dj" : Str) := f1 (by omega)
      subst efm
      (with_reducible refine w_seq ?_)
      (with_reducible refine w_asg ?_)
      (with_reducible refine w_op ?_)
      (with_reducible refine w_op ?_)
      ((with_reducible refine' w_var ?hv ?_); (case hv => exact rfl))
      ((with_reducible refine' w_var ?hv ?_); (case hv => exact rfl))
      (with_reducible refine w_I0 ?_)
      (with_reducible refine w_c ?_)
      ((with_reducible refine w_I ?hc ?_); (case hc => walk_at "side"))
      (with_reducible refine w_name ?_)
      (with_reducible refine w_ret ?_)
      (with_reducible refine w_if ?_)
      (with_reducible refine w_B ?_)
      (with_reducible refine w_call ?_)
      (with_reducible refine w_cons ?_)
      (with_reducible refine w_c ?_)
      (with_reducible refine w_cons ?_)
      ((with_reducible refine' w_var ?hv ?_); (case hv => exact rfl))
      (with_reducible refine w_nil ?_)
      refine ⟨106, _, rfl, by decide, ?_⟩
      have eb : bnd 106 = (-131072, 131071) := by decide
      rw [eb]
      by_cases hd : -131072 ≤ (a - p) / 4 ∧ (a - p) / 4 ≤ 131071
      · have er : inR (-131072) 131071 ((a - p) / 4) = true := by unfold inR; rw [decide_eq_true hd.1, decide_eq_true hd.2]; rfl
        simp only [er, if_pos hd] at qq ⊢
        (with_reducible refine w_bl ?_)
        (with_reducible refine w_itT ?_)
        (with_reducible refine w_call ?_)
        (with_reducible refine w_cons ?_)
        (with_reducible refine w_tup ?_)
        (with_reducible refine w_star ?_)
        (with_reducible refine w_sl ?_)
        ((with_reducible refine' w_var ?hv ?_); (case hv => exact rfl))
        (with_reducible refine w_noPart ?_)
        (with_reducible refine w_part ?_)
        (with_reducible refine w_un ?_)
        (with_reducible refine w_c ?_)
        (with_reducible refine w_U ?_)
        (with_reducible refine w_exI ?_)
        refine w_slG (.of ht) fun t2 H2 s2 ht2 => ?_
        rw [cut_neg _ ine, dl_ins xne] at ht2
        refine ⟨t2, _, rfl, .inl ht2, ?_⟩
        (with_reducible refine w_cons ?_)
        ((with_reducible refine' w_var ?hv ?_); (case hv => exact rfl))
        (with_reducible refine w_nil ?_)
        have el : xs.length ≤ 3 := hi.fits.len.2.1
        refine w_kTup (by unfold insV; simp only [List.length_append, List.length_cons, List.length_map, List.length_dropLast, List.length_nil]; exact Nat.le_of_lt (small1000 (by omega))) fun t3 H3 n3 s3 ht3 => ?_
        rw [ins_snoc] at ht3
        have hfi := hi.fits
        cases hfi with
        | dj ha hc =>
          rename_i r c
          refine ⟨t3, n, op, _, [r, (a - p) / 4], rfl, .of ht3, ⟨hi.at_, .dj ha hd⟩, fun H4 s4 => ?_⟩
          have ev : encW n "dj" [r, (a - p) / 4] = x / 262144 * 262144 + (a - p) / 4 % 262144 := by
            rw [enc_dj] at e ⊢
            omega
          rw [ev]
          exact qq H4 (s2.trans (s3.trans s4))
      · have er : inR (-131072) 131071 ((a - p) / 4) = false := by
          unfold inR
          by_cases h1 : -131072 ≤ (a - p) / 4
          · rw [decide_eq_true h1, decide_eq_false (fun z => hd ⟨h1, z⟩)]; rfl
          · rw [decide_eq_false h1]; rfl
        simp only [er, if_neg hd] at qq ⊢
        (with_reducible refine w_bl ?_)
        (with_reducible refine w_itF ?_)
        (with_reducible refine w_c ?_)
        exact qq H1 (Same.refl H1)
    · have ej' : ¬ fo = ("jal" : Str) := ej
      rw [if_neg ej'] at hok
      simp only [if_neg ej'] at qq
      (with_reducible refine w_next ?_)
      (with_reducible refine w_seq ?_)
      (with_reducible refine w_asg ?_)
      (with_reducible refine w_op ?_)
      (with_reducible refine w_op ?_)
      (with_reducible refine w_op ?_)
      ((with_reducible refine' w_var ?hv ?_); (case hv => exact rfl))
      (with_reducible refine w_c ?_)
      (with_reducible refine w_I0 ?_)
      (with_reducible refine w_c ?_)
      (with_reducible refine w_I0 ?_)
      (with_reducible refine w_c ?_)
      ((with_reducible refine w_I ?hc ?_); (case hc => walk_at "side"))
      (with_reducible refine w_name ?_)
      (with_reducible refine w_seq ?_)
      (with_reducible refine w_ifS ?_)
      (with_reducible refine w_test ?_)
      (with_reducible refine w_op ?_)
      ((with_reducible refine' w_var ?hv ?_); (case hv => exact rfl))
      (with_reducible refine w_c ?_)
      (with_reducible refine w_eqS ?_)
      (with_reducible refine w_bl ?_)
      rw [b1, b3]
      have hp0 : 0 ≤ hiP a ∧ hiP a < 262144 := by unfold hiP; omega
      refine w_dec (fun eh => ?_) (fun eh => ?_)
      · have eh' : fo = ("high" : Str) := eh
        rw [if_pos eh'] at hok
        have h22 := of_decide_eq_true hok
        simp only [if_pos eh', if_pos h22] at qq
        have efm : fm = ("du" : Str) := f2 (by omega)
        subst efm
        (with_reducible refine w_ret ?_)
        (with_reducible refine w_call ?_)
        (with_reducible refine w_cons ?_)
        (with_reducible refine w_tup ?_)
        (with_reducible refine w_star ?_)
        (with_reducible refine w_sl ?_)
        ((with_reducible refine' w_var ?hv ?_); (case hv => exact rfl))
        (with_reducible refine w_noPart ?_)
        (with_reducible refine w_part ?_)
        (with_reducible refine w_un ?_)
        (with_reducible refine w_c ?_)
        (with_reducible refine w_U ?_)
        (with_reducible refine w_exI ?_)
        refine w_slG (.of ht) fun t2 H2 s2 ht2 => ?_
        rw [cut_neg _ ine, dl_ins xne] at ht2
        refine ⟨t2, _, rfl, .inl ht2, ?_⟩
        (with_reducible refine w_cons ?_)
        ((with_reducible refine' w_var ?hv ?_); (case hv => exact rfl))
        (with_reducible refine w_nil ?_)
        have el : xs.length ≤ 3 := hi.fits.len.2.1
        refine w_kTup (by unfold insV; simp only [List.length_append, List.length_cons, List.length_map, List.length_dropLast, List.length_nil]; exact Nat.le_of_lt (small1000 (by omega))) fun t3 H3 n3 s3 ht3 => ?_
        rw [ins_snoc] at ht3
        have hfi := hi.fits
        cases hfi with
        | du ha hc =>
          rename_i r c
          refine ⟨t3, n, op, _, [r, hiP a], rfl, .of ht3, ⟨hi.at_, .du ha hp0⟩, fun H4 s4 => ?_⟩
          have ev : encW n "du" [r, hiP a] = x / 262144 * 262144 + hiP a := by
            rw [enc_du] at e ⊢
            omega
          rw [ev]
          exact qq H4 (s2.trans (s3.trans s4))
      · have eh' : ¬ fo = ("high" : Str) := eh
        rw [if_neg eh'] at hok
        have hlo := of_decide_eq_true hok
        simp only [if_neg eh', if_pos hlo] at qq
        have efm := f3 (by omega)
        (with_reducible refine w_next ?_)
        (with_reducible refine w_seq ?_)
        (with_reducible refine w_asg ?_)
        (with_reducible refine w_op ?_)
        (with_reducible refine w_op ?_)
        (with_reducible refine w_op ?_)
        ((with_reducible refine' w_var ?hv ?_); (case hv => exact rfl))
        (with_reducible refine w_c ?_)
        (with_reducible refine w_I0 ?_)
        (with_reducible refine w_op ?_)
        (with_reducible refine w_op ?_)
        (with_reducible refine w_c ?_)
        (with_reducible refine w_c ?_)
        ((with_reducible refine w_I ?hc ?_); (case hc => walk_at "side"))
        (with_reducible refine w_c ?_)
        (with_reducible refine w_I0 ?_)
        (with_reducible refine w_I0 ?_)
        (with_reducible refine w_c ?_)
        (with_reducible refine w_I0 ?_)
        (with_reducible refine w_name ?_)
        (with_reducible refine w_ret ?_)
        (with_reducible refine w_call ?_)
        (with_reducible refine w_cons ?_)
        (with_reducible refine w_tup ?_)
        (with_reducible refine w_star ?_)
        (with_reducible refine w_sl ?_)
        ((with_reducible refine' w_var ?hv ?_); (case hv => exact rfl))
        (with_reducible refine w_noPart ?_)
        (with_reducible refine w_part ?_)
        (with_reducible refine w_un ?_)
        (with_reducible refine w_c ?_)
        (with_reducible refine w_U ?_)
        (with_reducible refine w_exI ?_)
        rw [b2]
        have hl : -8192 ≤ (a + 8192) % 16384 - 8192 ∧ (a + 8192) % 16384 - 8192 ≤ 8191 := by omega
        have hm : ((a + 8192) % 16384 - 8192) % 16384 = (a - hiP a * 16384) % 16384 := by omega
        refine w_slG (.of ht) fun t2 H2 s2 ht2 => ?_
        rw [cut_neg _ ine, dl_ins xne] at ht2
        refine ⟨t2, _, rfl, .inl ht2, ?_⟩
        (with_reducible refine w_cons ?_)
        ((with_reducible refine' w_var ?hv ?_); (case hv => exact rfl))
        (with_reducible refine w_nil ?_)
        have el : xs.length ≤ 3 := hi.fits.len.2.1
        refine w_kTup (by unfold insV; simp only [List.length_append, List.length_cons, List.length_map, List.length_dropLast, List.length_nil]; exact Nat.le_of_lt (small1000 (by omega))) fun t3 H3 n3 s3 ht3 => ?_
        rw [ins_snoc] at ht3
        have hfi := hi.fits
        have efm' : fm = ("dsi" : Str) ∨ fm = ("ssi" : Str) := efm
        rcases efm' with rfl | rfl
        · cases hfi with
          | dsi ha hb hc =>
            rename_i r1 r2 c
            refine ⟨t3, n, op, _, [r1, r2, (a + 8192) % 16384 - 8192], rfl, .of ht3, ⟨hi.at_, .dsi ha hb hl⟩, fun H4 s4 => ?_⟩
            have ev : encW n "dsi" [r1, r2, (a + 8192) % 16384 - 8192] = x / 16384 * 16384 + (a - hiP a * 16384) % 16384 := by
              rw [enc_dsi] at e ⊢
              omega
            rw [ev]
            exact qq H4 (s2.trans (s3.trans s4))
        · cases hfi with
          | ssi ha hb hc =>
            rename_i r1 r2 c
            refine ⟨t3, n, op, _, [r1, r2, (a + 8192) % 16384 - 8192], rfl, .of ht3, ⟨hi.at_, .ssi ha hb hl⟩, fun H4 s4 => ?_⟩
            have ev : encW n "ssi" [r1, r2, (a + 8192) % 16384 - 8192] = x / 16384 * 16384 + (a - hiP a * 16384) % 16384 := by
              rw [enc_ssi] at e ⊢
              omega
            rw [ev]
            exact qq H4 (s2.trans (s3.trans s4))
end
end K08



open PySem.W
namespace K08
open TL RZ
theorem sc_exports : FnScope ["parts", "addresses", "exported", "index", "part", "address", "offset", "name"] ["parts", "addresses"] (defScope s_exports) := ⟨rfl, rfl, rfl, by decide +kernel, rfl, by decide +kernel, by decide +kernel⟩
theorem w_din {ty td : TE} {σ : L2.St} {H : Hp} {Q : VK} (q : ty σ H fun y H1 => td σ H1 fun x H2 => ∃ a o, x = .ref a ∧ DGet H2 a y o ∧ Q (.bl o.isSome) H2) : tDIn ty td σ H Q := q
theorem w_dnotin {ty td : TE} {σ : L2.St} {H : Hp} {Q : VK} (q : ty σ H fun y H1 => td σ H1 fun x H2 => ∃ a o, x = .ref a ∧ DGet H2 a y o ∧ Q (.bl (!o.isSome)) H2) : tDNotIn ty td σ H Q := q
theorem w_raiseL {C : Addr} {W : WX} {ta : TA} {D : Ends} {σ : L2.St} {H : Hp} (q : ta σ H fun vs H1 => ∃ (n : Int) (c : Str), vs = [.int n, .str c] ∧ n.natAbs < 4294967296 ∧ c.length ≤ 100 ∧ ∀ d, H1 d = none → W (.ref C) (some d) σ (upd H1 d (LkX n c))) : tRaiseL C W ta D σ H := q
theorem w_callS {sp : Sp} {W : WX} {t : TA} {σ : L2.St} {H : Hp} {Q : VK} (q : t σ H fun vs H1 => sp vs H1 Q (WE W σ)) : tCallS sp (WE W) t σ H Q := q
local macro_rules | `(tactic| walk_at "w1") => `(tactic| first
  | (with_reducible refine w_isS ?_)
  | (with_reducible refine w_din ?_)
  | (with_reducible refine w_dnotin ?_)
  | (with_reducible refine w_dget ?_)
  | (with_reducible refine w_dput ?_)
  | (with_reducible refine w_iEnZ ?_)
  | (with_reducible refine w_callS ?_)
  | (with_reducible refine w_raiseL ?_))
/-! what is exported -/
abbrev KV : Type := List (Str × Int)
def kvK (kv : KV) : List (Key × V) := kv.map fun e => (kS e.1, V.int e.2)
def lk (kv : KV) (z : Str) : Option Int := (kv.find? fun e => e.1 == z).map (·.2)
theorem valKV (z : Str) : ∀ kv : KV, valV (kvK kv) (kS z) = (lk kv z).map V.int
  | [] => rfl
  | e :: r => by
    have ih := valKV z r
    unfold kvK lk valV at *
    rw [List.map_cons, List.find?_cons, List.find?_cons]
    by_cases h : e.1 = z
    · simp [kS, h]
    · have h2 : ¬ (kS e.1 = kS z) := fun y => h (Sum.inr.inj y)
      rw [decide_eq_false h2, beq_eq_false_iff_ne.mpr h]
      exact ih
theorem kv_get {H : Hp} {d : Addr} {kv : KV} (h : H d = some (.dK (kvK kv))) (z : Str) : DGet H d (.str z) ((lk kv z).map V.int) := by
  have := DGet.k (k := kS z) h
  rw [valKV] at this
  exact this
theorem kv_put {kv : KV} {z : Str} {v : Int} (h : lk kv z = none) : putK (kvK kv) (kS z) (.int v) = kvK (kv ++ [(z, v)]) := by
  unfold putK
  have e : ((kvK kv).any fun p => decide (p.1 = kS z)) = false := by
    rw [List.any_eq_false]
    intro p hp
    obtain ⟨e, he, rfl⟩ := List.mem_map.mp hp
    have : (kv.find? fun e => e.1 == z) = none := by
      unfold lk at h
      cases q : (kv.find? fun e => e.1 == z) with
      | none => rfl
      | some _ => rw [q] at h; cases h
    have := List.find?_eq_none.mp this e he
    simp only [beq_iff_eq] at this
    simp only [decide_eq_true_eq]
    exact fun y => this (Sum.inr.inj y)
  rw [e, if_neg (by decide)]
  unfold kvK
  rw [List.map_append]
  rfl
def exOne (a : Int) (kv : KV) (e : Int × Str) : Option KV := if (lk kv e.2).isSome = true ∨ nameOk e.2 = false then none else some (kv ++ [(e.2, a + e.1)])
def exP (a : Int) (xs : List (Int × Str)) (kv : KV) : Nat → Option KV
  | 0 => some kv
  | j + 1 => match exP a xs kv j with
    | none => none
    | some kv' => match xs[j]? with
      | some e => exOne a kv' e
      | none => some kv'
theorem exP_none {a : Int} {xs : List (Int × Str)} {kv : KV} {j : Nat} (h : exP a xs kv j = none) : ∀ m, j ≤ m → exP a xs kv m = none
  | 0, hm => by rw [Nat.le_zero.mp hm] at h; exact h
  | m + 1, hm => by
    rcases Nat.lt_or_ge m j with z | z
    · have : j = m + 1 := by omega
      rw [this] at h
      exact h
    · show (match exP a xs kv m with | none => none | some kv' => _) = none
      rw [exP_none h m z]
inductive ExR
  | ok (kv : KV)
  | er (k : Nat)
def exS (ps : List Part) : Nat → ExR
  | 0 => .ok []
  | i + 1 => match exS ps i with
    | .er k => .er k
    | .ok kv => match ps[i]? with
      | none => .ok kv
      | some p => match exP (adN ps i) p.xs kv p.xs.length with
        | none => .er i
        | some kv' => .ok kv'
theorem exS_er {ps : List Part} {j k : Nat} (h : exS ps j = .er k) : ∀ m, j ≤ m → exS ps m = .er k
  | 0, hm => by rw [Nat.le_zero.mp hm] at h; exact h
  | m + 1, hm => by
    rcases Nat.lt_or_ge m j with z | z
    · have : j = m + 1 := by omega
      rw [this] at h
      exact h
    · show (match exS ps m with | .er k => ExR.er k | .ok kv => _) = _
      rw [exS_er h m z]
/-- the values are small, the names short -/
def KvOk (n : Nat) (kv : KV) : Prop := kv.length ≤ n ∧ ∀ e ∈ kv, 0 ≤ e.2 ∧ e.2 ≤ 1000000 ∧ e.2 % 4 = 0 ∧ e.1.length ≤ 100 ∧ PyData.strOk e.1 = true
theorem KvOk.lk {n : Nat} {kv : KV} (h : KvOk n kv) {z : Str} {v : Int} (e : lk kv z = some v) : 0 ≤ v ∧ v ≤ 1000000 ∧ v % 4 = 0 := by
  unfold K08.lk at e
  obtain ⟨p, hp, rfl⟩ := Option.map_eq_some_iff.mp e
  obtain ⟨a, b, c, _⟩ := h.2 p (List.mem_of_find?_eq_some hp)
  exact ⟨a, b, c⟩
theorem exP_ok {a : Int} {xs : List (Int × Str)} {kv : KV} {n : Nat} (h : KvOk n kv) (ha : 0 ≤ a ∧ a ≤ 800000 ∧ a % 16 = 0) (hx : ∀ e ∈ xs, 0 ≤ e.1 ∧ e.1 ≤ 100000 ∧ e.1 % 4 = 0 ∧ e.2.length ≤ 100 ∧ PyData.strOk e.2 = true) : ∀ j kv', exP a xs kv j = some kv' → KvOk (n + j) kv'
  | 0, kv', e => by cases e; exact h
  | j + 1, kv', e => by
    have e' : (match exP a xs kv j with
      | none => none
      | some kv' => match xs[j]? with
        | some e => exOne a kv' e
        | none => some kv') = some kv' := e
    cases q : exP a xs kv j with
    | none => rw [q] at e'; cases e'
    | some k1 =>
      rw [q] at e'
      have ih := exP_ok h ha hx j k1 q
      simp only at e'
      cases r : xs[j]? with
      | none => rw [r] at e'; cases e'; exact ⟨Nat.le_succ_of_le ih.1, ih.2⟩
      | some en =>
        rw [r] at e'
        simp only at e'
        unfold exOne at e'
        split at e'
        · cases e'
        · cases e'
          obtain ⟨x1, x2, x3, x4, x5⟩ := hx en (List.mem_of_getElem? r)
          refine ⟨by rw [List.length_append]; exact Nat.succ_le_succ ih.1, fun e he => ?_⟩
          rcases List.mem_append.mp he with z | z
          · exact ih.2 e z
          · rw [List.mem_singleton.mp z]
            exact ⟨by show 0 ≤ a + en.1; omega, by show a + en.1 ≤ 1000000; omega, by show (a + en.1) % 4 = 0; omega, x4, x5⟩
theorem exS_ok {ps : List Part} (hok : ∀ p ∈ ps, PartOk p) (hl : ps.length ≤ 10) : ∀ i kv, exS ps i = .ok kv → KvOk (10 * min i ps.length) kv
  | 0, kv, e => by cases e; exact ⟨Nat.zero_le _, fun e h => (by cases h)⟩
  | i + 1, kv, e => by
    have e' : (match exS ps i with
      | .er k => ExR.er k
      | .ok kv => match ps[i]? with
        | none => .ok kv
        | some p => match exP (adN ps i) p.xs kv p.xs.length with
          | none => .er i
          | some kv' => .ok kv') = .ok kv := e
    cases q : exS ps i with
    | er k => rw [q] at e'; cases e'
    | ok k1 =>
      rw [q] at e'
      have ih := exS_ok hok hl i k1 q
      simp only at e'
      cases r : ps[i]? with
      | none =>
        rw [r] at e'; cases e'
        have : ps.length ≤ i := List.getElem?_eq_none_iff.mp r
        rw [show min (i + 1) ps.length = min i ps.length by omega]
        exact ih
      | some p =>
        rw [r] at e'
        simp only at e'
        have il : i < ps.length := (List.getElem?_eq_some_iff.mp r).1
        obtain ⟨a0, a1, a2⟩ := adN_le hok i
        have po := hok p (List.mem_of_getElem? r)
        cases t : exP (adN ps i) p.xs k1 p.xs.length with
        | none => rw [t] at e'; cases e'
        | some k2 =>
          rw [t] at e'
          cases e'
          have := exP_ok ih ⟨by omega, by omega, a2⟩ po.x2 _ _ t
          refine ⟨Nat.le_trans this.1 ?_, this.2⟩
          have := po.x1
          omega
def spExp (C : Addr) : Sp := fun vs H Q E => ∃ (p q : Addr) (us : List V) (ps : List Part), vs = [.ref p, .ref q] ∧ H p = some (.lst us) ∧ Al (PartAt H) us ps ∧ (∀ p ∈ ps, PartOk p) ∧ ps.length ≤ 10 ∧ H q = some (.lst ((adrs ps).map V.int)) ∧
  (∀ kv, exS ps ps.length = .ok kv → ∀ d H', H d = none → Same H H' → H' d = some (.dK (kvK kv)) → Q (.ref d) H') ∧
  (∀ k, exS ps ps.length = .er k → ∀ d H', H d = none → Same H H' → H' d = some (LkX (k : Int) "export") → E (.ref C) (some d) H')
section
variable {P : Program} {w : World} {K : PySem.W.Frag} {mg : Str → Option Value} {base : Heap}
theorem ok_exports {C fI : Addr} (TE : OwnL.Txt P K mg C fI) (b_enumerate : mg "enumerate" = none) (b_zip : mg "zip" = none) (c_is_name : Cd P w K mg base 1 "is_name" spName) {f : Addr} {fd : FuncData} (F : Fun K "_exports" "_exports" s_exports f fd) : FnOk P w K mg base (L2.CX P w) 2 f fd ["parts", "addresses"] (spExp C) := by
  refine F.okX sc_exports (fun vs H Q E h => by obtain ⟨p, q, us, ps, rfl, _⟩ := h; rfl) (fun cdv A outer s H vs Q E hr h => ?_)
  obtain ⟨p, r, us, ps, rfl, hp, ha, hok, hl, hr0, qok, qer⟩ := h
  have hu := Nat.lt_trans (Nat.add_lt_add_left (by decide : 1 < 64) _) hr.units
  refine ⟨_, (Evl.pss_cut (ps_set (i := 2) sc_exports.nd rfl (.inl rfl) pe_dnewK)
      (pss_cons (ps_for (passes_of rfl) rfl (pi_enZ (by rfl) b_enumerate (by rfl) b_zip (pa_cons (pv 0) (pa_cons (pv 1) pa_nil))) (pg_tup rfl (pgs_cons (pg_name (i := 3) sc_exports.nd rfl (.inl rfl)) (pgs_cons (pg_tup rfl (pgs_cons (pg_name (i := 4) sc_exports.nd rfl (.inl rfl)) (pgs_cons (pg_name (i := 5) sc_exports.nd rfl (.inl rfl)) pgs_nil))) pgs_nil)))
      (pss_one (ps_for (passes_of rfl) rfl (pi_tup (pe_ix ix_tup (pv 4) pe_int (fun _ _ => rfl))) (pg_tup rfl (pgs_cons (pg_name (i := 6) sc_exports.nd rfl (.inl rfl)) (pgs_cons (pg_name (i := 7) sc_exports.nd rfl (.inl rfl)) pgs_nil)))
      (pss_cons (ps_if (PW.pt (pw_or (pt_cmp (pc_din hu (pv 7) (pv 2))) (pw_or1 (pt_not (pt_val (pe_cd c_is_name hr (by first | decide | omega) (by rfl) (pa_cons (pv 7) pa_nil))))))) (pss_one (ps_raiseL rfl TE hr (takes_of rfl rfl rfl rfl) (pa_cons (pv 3) (pa_cons pe_str pa_nil)))) pss_nil)
      (pss_one (ps_dput hu (pv 2) (pv 7) (pe_op op_add (pv 5) (pv 6)) rfl))))))
      (pss_one (ps_ret (pv 2))))), ?_⟩
  refine Evl.q_cut (M := fun σ' H' => Same H H' ∧ ∃ d : Addr, H d = none ∧ H' d = some (.dK (kvK [])) ∧ σ' = [some (.ref p), some (.ref r), some (.ref d), none, none, none, none, none]) ?_ ?_
  · (with_reducible refine w_asg ?_)
    refine w_dnewK fun d H1 nd s1 hd => ?_
    (with_reducible refine w_name ?_)
    exact ⟨s1, d, nd, hd, rfl⟩
  rintro σ' H1 ⟨s1, d, nd, hd, rfl⟩
  (with_reducible refine w_seq ?_)
  (with_reducible refine w_for ?_)
  (with_reducible refine w_iEnZ ?_)
  (with_reducible refine w_cons ?_)
  ((with_reducible refine' w_var ?hv ?_); (case hv => exact rfl))
  (with_reducible refine w_cons ?_)
  ((with_reducible refine' w_var ?hv ?_); (case hv => exact rfl))
  (with_reducible refine w_nil ?_)
  refine w_forEZ us ((adrs ps).map V.int) (fun i σ H' => Same H H' ∧ ∃ (kv : KV) (v3 v4 v5 v6 v7 : Option V), exS ps i = .ok kv ∧ H' d = some (.dK (kvK kv)) ∧ σ = [some (.ref p), some (.ref r), some (.ref d), v3, v4, v5, v6, v7]) (.of (s1 _ _ hp)) (.of (s1 _ _ hr0)) (by rw [ha.1, List.length_map, adrs_len]) ⟨s1, [], _, _, _, _, _, rfl, hd, rfl⟩ (fun i σ H' h => ⟨.of (h.1 _ _ hp), .of (h.1 _ _ hr0)⟩) (fun i x y σ H2 T Pp H3 hx hy h nT nP s3 hP hT => ?_) (fun σ H2 h => ?_)
  · obtain ⟨s2, kv, v3, v4, v5, v6, v7, ek, hd2, rfl⟩ := h
    obtain ⟨g, hg, pa⟩ := ha.at hx
    have il : i < ps.length := (List.getElem?_eq_some_iff.mp hg).1
    obtain ⟨a, hya, rfl⟩ := map_get hy
    rw [adrs_at il] at hya
    cases hya
    have s23 := s2.trans s3
    obtain ⟨t, tw, tx, tn, xv, nv, rfl, ht, htw, htx, htn, hxv, hnv⟩ := pa.tk (TK.same s23)
    have po := hok g (List.mem_of_getElem? hg)
    have kvo := exS_ok hok hl i kv ek
    obtain ⟨a0, a1, a2⟩ := adN_le hok i
    have hd3 := s3 _ _ hd2
    have st : exS ps (i + 1) = (match exP (adN ps i) g.xs kv g.xs.length with
        | none => ExR.er i
        | some kv' => .ok kv') := by
      show (match exS ps i with | .er k => ExR.er k | .ok kv => match ps[i]? with | none => .ok kv | some p => _) = _
      rw [ek, hg]
    have sameD : ∀ H', But d H3 H' → Same H H' := fun H' b x o hx => b x o (fun z => by rw [z, nd] at hx; cases hx) (s23 _ _ hx)
    ((with_reducible refine' w_gTup ?hh ?hn ?_); (case hh => assumption); (case hn => exact rfl))
    (with_reducible refine w_gCons ?_)
    (with_reducible refine w_name ?_)
    (with_reducible refine w_gCons ?_)
    ((with_reducible refine' w_gTup ?hh ?hn ?_); (case hh => assumption); (case hn => exact rfl))
    (with_reducible refine w_gCons ?_)
    (with_reducible refine w_name ?_)
    (with_reducible refine w_gCons ?_)
    (with_reducible refine w_name ?_)
    (with_reducible refine w_gNil ?_)
    (with_reducible refine w_gNil ?_)
    (with_reducible refine w_for ?_)
    (with_reducible refine w_iT ?_)
    (with_reducible refine w_op ?_)
    ((with_reducible refine' w_var ?hv ?_); (case hv => exact rfl))
    (with_reducible refine w_c ?_)
    ((with_reducible refine' w_ixT ?hh ?ha ?_); (case hh => assumption); (case ha => exact rfl))
    refine w_forT xv (fun j σ H' => But d H3 H' ∧ ∃ (kv' : KV) (v6 v7 : Option V), exP (adN ps i) g.xs kv j = some kv' ∧ H' d = some (.dK (kvK kv')) ∧ σ = [some (.ref p), some (.ref r), some (.ref d), some (.int (i : Int)), some (.ref t), some (.int (adN ps i)), v6, v7]) (.of htx) ⟨But.refl _ _, kv, _, _, rfl, hd3, rfl⟩ (fun j σ H' _ h => .of (h.1 _ _ (ne_of htx hd3 (by intro z; cases z)) htx)) (fun j x σ H4 hx4 h => ?_) (fun σ H4 h => ?_)
    · obtain ⟨b4, kv', v6, v7, ej, hd4, rfl⟩ := h
      obtain ⟨en, hen, ea⟩ := hxv.at hx4
      obtain ⟨te, rfl, hte⟩ := ea.tk (TK.dic b4 hd3)
      have jl : j < g.xs.length := (List.getElem?_eq_some_iff.mp hen).1
      have kvo' := exP_ok kvo ⟨by omega, by omega, a2⟩ po.x2 j kv' ej
      obtain ⟨_, _, _, x4, _⟩ := po.x2 en (List.mem_of_getElem? hen)
      have sj : exP (adN ps i) g.xs kv (j + 1) = exOne (adN ps i) kv' en := by
        show (match exP (adN ps i) g.xs kv j with | none => none | some kv' => match g.xs[j]? with | some e => exOne (adN ps i) kv' e | none => some kv') = _
        rw [ej, hen]
      have bad : exOne (adN ps i) kv' en = none → ∀ H5, Same H4 H5 → ∃ (n : Int) (c : Str), [V.int (i : Int), .str "export"] = [.int n, .str c] ∧ n.natAbs < 4294967296 ∧ c.length ≤ 100 ∧ ∀ dd, H5 dd = none → E (.ref C) (some dd) (upd H5 dd (LkX n c)) := fun e H5 s5 => by
        refine ⟨(i : Int), "export", rfl, by omega, by decide +kernel, fun dd ndd => ?_⟩
        have sA := (sameD H4 b4).trans s5
        have en1 : exP (adN ps i) g.xs kv g.xs.length = none := exP_none (sj.trans e) _ jl
        rw [en1] at st
        exact qer i (exS_er st _ il) dd _ (fresh sA ndd) (sA.trans (Same.new ndd)) upd_same
      ((with_reducible refine' w_gTup ?hh ?hn ?_); (case hh => assumption); (case hn => exact rfl))
      (with_reducible refine w_gCons ?_)
      (with_reducible refine w_name ?_)
      (with_reducible refine w_gCons ?_)
      (with_reducible refine w_name ?_)
      (with_reducible refine w_gNil ?_)
      (with_reducible refine w_seq ?_)
      (with_reducible refine w_ifS ?_)
      (with_reducible refine w_orT ?_)
      (with_reducible refine w_B ?_)
      (with_reducible refine w_din ?_)
      ((with_reducible refine' w_var ?hv ?_); (case hv => exact rfl))
      ((with_reducible refine' w_var ?hv ?_); (case hv => exact rfl))
      refine ⟨d, _, rfl, kv_get hd4 en.2, ?_⟩
      cases eg : lk kv' en.2 with
      | some v =>
        simp only [Option.map_some, Option.isSome_some]
        (with_reducible refine w_bl ?_)
        (with_reducible refine w_itT ?_)
        rw [if_pos trivial]
        (with_reducible refine w_raiseL ?_)
        (with_reducible refine w_cons ?_)
        ((with_reducible refine' w_var ?hv ?_); (case hv => exact rfl))
        (with_reducible refine w_cons ?_)
        (with_reducible refine w_c ?_)
        (with_reducible refine w_nil ?_)
        exact bad (by unfold exOne; rw [eg]; rfl) H4 (Same.refl _)
      | none =>
        simp only [Option.map_none, Option.isSome_none]
        (with_reducible refine w_bl ?_)
        (with_reducible refine w_itF ?_)
        (with_reducible refine w_notT ?_)
        (with_reducible refine w_B ?_)
        (with_reducible refine w_call ?_)
        (with_reducible refine w_cons ?_)
        ((with_reducible refine' w_var ?hv ?_); (case hv => exact rfl))
        (with_reducible refine w_nil ?_)
        refine ⟨en.2, rfl, Nat.le_trans x4 (by decide), fun H5 s5 => ?_⟩
        cases en0 : nameOk en.2 with
        | false =>
          (with_reducible refine w_bl ?_)
          (with_reducible refine w_nF ?_)
          (with_reducible refine w_raiseL ?_)
          (with_reducible refine w_cons ?_)
          ((with_reducible refine' w_var ?hv ?_); (case hv => exact rfl))
          (with_reducible refine w_cons ?_)
          (with_reducible refine w_c ?_)
          (with_reducible refine w_nil ?_)
          exact bad (by unfold exOne; rw [eg, en0]; rfl) H5 s5
        | true =>
          (with_reducible refine w_bl ?_)
          (with_reducible refine w_nT ?_)
          (with_reducible refine w_next ?_)
          (with_reducible refine w_dput ?_)
          (with_reducible refine w_op ?_)
          ((with_reducible refine' w_var ?hv ?_); (case hv => exact rfl))
          ((with_reducible refine' w_var ?hv ?_); (case hv => exact rfl))
          (with_reducible refine w_I0 ?_)
          ((with_reducible refine' w_var ?hv ?_); (case hv => exact rfl))
          ((with_reducible refine' w_var ?hv ?_); (case hv => exact rfl))
          have hd5 := s5 _ _ hd4
          refine w_kDP hd5 (by unfold kvK; rw [List.length_map]; have z1 := kvo'.1; have z2 := po.x1; omega) (kv_put eg) fun H6 hd6 b6 => ?_
          skip
          exact ⟨fun b o hb hx => b6 b o hb (s5 _ _ (b4 b o hb hx)), _, _, _, sj.trans (by unfold exOne; rw [eg, en0]; rfl), hd6, rfl⟩
    · obtain ⟨b4, kv', v6, v7, ej, hd4, rfl⟩ := h
      skip
      rw [hxv.1] at ej
      rw [ej] at st
      exact ⟨sameD H4 b4, kv', _, _, _, _, _, st, hd4, rfl⟩
  · obtain ⟨s2, kv, v3, v4, v5, v6, v7, ek, hd2, rfl⟩ := h
    (with_reducible refine w_ret ?_)
    ((with_reducible refine' w_var ?hv ?_); (case hv => exact rfl))
    rw [ha.1] at ek
    exact qok kv ek d H2 nd s2 hd2
end
end K08


open PySem.W
namespace K08
open TL RZ
theorem sc_met : FnScope ["index", "part", "address", "exported", "needs", "words", "too_far", "offset", "form", "name", "word", "_"] ["index", "part", "address", "exported"] (defScope s_met) := ⟨rfl, rfl, rfl, by decide +kernel, rfl, by decide +kernel, by decide +kernel⟩
local macro_rules | `(tactic| walk_at "w1") => `(tactic| first
  | (with_reducible refine w_isS ?_)
  | (with_reducible refine w_din ?_)
  | (with_reducible refine w_dnotin ?_)
  | (with_reducible refine w_dget ?_)
  | (with_reducible refine w_dput ?_)
  | (with_reducible refine w_isNN ?_)
  | (with_reducible refine w_notNN ?_)
  | (with_reducible refine w_callS ?_)
  | (with_reducible refine w_raiseL ?_))
theorem w_isNI {i : Int} {H : Hp} {Q : VK} (q : Q (.bl false) H) : rIsNQ (.int i) .non H Q := ⟨rfl, q⟩
/-! what is met -/
abbrev Nd : Type := Int × Str × Str
def wAt (p : Part) (e : Nd) : Int := (p.ws[(e.1 / 4).toNat]?).getD 0
def filN (kv : KV) (a : Int) (p : Part) (e : Nd) : Fil := fil e.2.1 (wAt p e) (a + e.1) ((lk kv e.2.2).getD 0)
def needB (kv : KV) (e : Nd) : Bool := (lk kv e.2.2).isSome
def formB (p : Part) (e : Nd) : Bool := okF e.2.1 (wAt p e)
def rangB (kv : KV) (a : Int) (p : Part) (e : Nd) : Bool := (filN kv a p e).opt.isSome
def setN (kv : KV) (a : Int) (p : Part) (ws : List Int) (e : Nd) : List Int := match (filN kv a p e).opt with
  | some x => ws.set (e.1 / 4).toNat x
  | none => ws
def outN (kv : KV) (a : Int) (p : Part) (i : Nat) : List Int := (p.ns.take i).foldl (setN kv a p) p.ws
inductive MtR
  | ok (ws : List Int)
  | er (c : Str)
def metR (kv : KV) (a : Int) (p : Part) : MtR :=
  if (p.ns.map (needB kv)).all id = false then .er "need"
  else if (p.ns.map (formB p)).all id = false then .er "form"
  else if (p.ns.map (rangB kv a p)).all id = false then .er "range"
  else .ok (outN kv a p p.ns.length)
theorem outN_step {kv : KV} {a : Int} {p : Part} {i : Nat} {e : Nd} (h : p.ns[i]? = some e) : outN kv a p (i + 1) = setN kv a p (outN kv a p i) e := by
  unfold outN
  rw [take_more h, List.foldl_append]
  rfl
theorem setN_len (kv : KV) (a : Int) (p : Part) (ws : List Int) (e : Nd) : (setN kv a p ws e).length = ws.length := by
  unfold setN
  split <;> simp
theorem outN_len (kv : KV) (a : Int) (p : Part) : ∀ i, (outN kv a p i).length = p.ws.length := by
  intro i
  unfold outN
  generalize p.ns.take i = l
  generalize p.ws = ws
  induction l generalizing ws with
  | nil => rfl
  | cons e r ih => rw [List.foldl_cons, ih, setN_len]
/-- a need finds its word as it was -/
theorem outN_at {kv : KV} {a : Int} {p : Part} (hp : PartOk p) {i : Nat} {e : Nd} (h : p.ns[i]? = some e) : (outN kv a p i)[(e.1 / 4).toNat]? = p.ws[(e.1 / 4).toNat]? := by
  obtain ⟨j, w, ej, _⟩ := hp.n2 e (List.mem_of_getElem? h)
  have key : ∀ k, k ≤ i → (outN kv a p k)[(e.1 / 4).toNat]? = p.ws[(e.1 / 4).toNat]? := by
    intro k
    induction k with
    | zero => intro _; rfl
    | succ k ih =>
      intro hk
      have hl : k < p.ns.length := by
        have := (List.getElem?_eq_some_iff.mp h).1
        omega
      have hk' : p.ns[k]? = some p.ns[k] := List.getElem?_eq_getElem hl
      rw [outN_step hk']
      unfold setN
      obtain ⟨j', w', ej', _⟩ := hp.n2 p.ns[k] (List.getElem_mem hl)
      have ne : (p.ns[k].1 / 4).toNat ≠ (e.1 / 4).toNat := by
        intro z
        have e1 : p.ns[k].1 = e.1 := by omega
        have m1 : (p.ns.map (·.1))[k]? = some e.1 := by rw [List.getElem?_map, hk', ← e1]; rfl
        have m2 : (p.ns.map (·.1))[i]? = some e.1 := by rw [List.getElem?_map, h]; rfl
        have hkl : k < (p.ns.map (·.1)).length := by rw [List.length_map]; exact hl
        have := (List.getElem?_inj hkl hp.n3).mp (m1.trans m2.symm)
        omega
      split
      · rw [List.getElem?_set_ne ne]
        exact ih (by omega)
      · exact ih (by omega)
  exact key i (Nat.le_refl _)
theorem all_false {l : List Bool} {i : Nat} (h : l[i]? = some false) : l.all id = false := by
  rw [List.all_eq_false]
  exact ⟨false, List.mem_of_getElem? h, by simp⟩
theorem all_true_of {α : Type} {f : α → Bool} {l : List α} (h : ∀ (i : Nat) x, l[i]? = some x → f x = true) : (l.map f).all id = true := by
  rw [List.all_eq_true]
  intro b hb
  obtain ⟨x, hx, rfl⟩ := List.mem_map.mp hb
  obtain ⟨i, hi⟩ := List.getElem?_of_mem hx
  exact h i x hi
theorem all_at {α : Type} {f : α → Bool} {l : List α} (h : (l.map f).all id = true) {x : α} (hx : x ∈ l) : f x = true := by
  rw [List.all_eq_true] at h
  exact h _ (List.mem_map_of_mem hx)
/-- every word that stands there fits -/
theorem fil_fits {f : Str} {x p a v : Int} (hx : 0 ≤ x ∧ x < 4294967296) (ha : 0 ≤ a ∧ a ≤ 10000000) (h : (fil f x p a).opt = some v) : 0 ≤ v ∧ v < 4294967296 := by
  unfold fil at h
  have hp0 : 0 ≤ hiP a ∧ hiP a < 262144 := by unfold hiP; omega
  split at h
  · cases h; omega
  · split at h
    · split at h
      · split at h
        · cases h; omega
        · cases h
      · cases h
    · split at h
      · split at h
        · cases h; omega
        · cases h
      · split at h
        · cases h; omega
        · cases h
theorem wAt_fits {p : Part} (hp : PartOk p) (e : Nd) : 0 ≤ wAt p e ∧ wAt p e < 4294967296 := by
  unfold wAt
  cases h : p.ws[(e.1 / 4).toNat]? with
  | none => exact ⟨by show (0 : Int) ≤ 0; decide, by show (0 : Int) < 4294967296; decide⟩
  | some w => exact hp.wd w (List.mem_of_getElem? h)
theorem outN_fits {kv : KV} {a : Int} {p : Part} {n : Nat} (hp : PartOk p) (hk : KvOk n kv) : ∀ i, ∀ w ∈ outN kv a p i, 0 ≤ w ∧ w < 4294967296 := by
  intro i
  induction i with
  | zero => exact hp.wd
  | succ i ih =>
    cases h : p.ns[i]? with
    | none =>
      have : outN kv a p (i + 1) = outN kv a p i := by
        unfold outN
        have hl := List.getElem?_eq_none_iff.mp h
        rw [List.take_of_length_le hl, List.take_of_length_le (Nat.le_succ_of_le hl)]
      rw [this]
      exact ih
    | some e =>
      rw [outN_step h]
      unfold setN
      have h0 : 0 ≤ (lk kv e.2.2).getD 0 ∧ (lk kv e.2.2).getD 0 ≤ 10000000 := by
        cases q : lk kv e.2.2 with
        | none => exact ⟨by show (0 : Int) ≤ 0; decide, by show (0 : Int) ≤ 10000000; decide⟩
        | some v =>
          have := hk.lk q
          show 0 ≤ v ∧ v ≤ 10000000
          omega
      cases q : (filN kv a p e).opt with
      | none => exact ih
      | some x =>
        intro w hw
        rcases List.mem_or_eq_of_mem_set hw with z | z
        · exact ih w z
        · rw [z]
          exact fil_fits (wAt_fits hp e) h0 q
def spMet (C : Addr) : Sp := fun vs H Q E => ∃ (k : Nat) (v : V) (p : Part) (a : Int) (d : Addr) (kv : KV), vs = [.int (k : Int), v, .int a, .ref d] ∧ k ≤ 100 ∧ PartAt H v p ∧ PartOk p ∧ 0 ≤ a ∧ a ≤ 1000000 ∧ H d = some (.dK (kvK kv)) ∧ KvOk 1000 kv ∧
  (∀ ws, metR kv a p = .ok ws → ∀ r H', H r = none → Same H H' → H' r = some (.lst (ws.map V.int)) → Q (.ref r) H') ∧
  (∀ c, metR kv a p = .er c → ∀ dd H', H dd = none → Same H H' → H' dd = some (LkX (k : Int) c) → E (.ref C) (some dd) H')
section
variable {P : Program} {w : World} {K : PySem.W.Frag} {mg : Str → Option Value} {base : Heap}
theorem ok_met {C fI : Addr} (TE : OwnL.Txt P K mg C fI) (b_all : mg "all" = none) (b_list : mg "list" = none) (c_has_form : Cd P w K mg base 4 "_has_form" spHasF) (c_changed : Cd P w K mg base 4 "_changed" spChg) {f : Addr} {fd : FuncData} (F : Fun K "_met" "_met" s_met f fd) : FnOk P w K mg base (L2.CX P w) 5 f fd ["index", "part", "address", "exported"] (spMet C) := by
  refine F.okX sc_met (fun vs H Q E h => by obtain ⟨k, v, p, a, d, kv, rfl, _⟩ := h; rfl) (fun cdv A outer s H vs Q E hr h => ?_)
  obtain ⟨k, v, p, a, d, kv, rfl, hk, pa, po, a0, a1, hd, hkv, qok, qer⟩ := h
  have hu := Nat.lt_trans (Nat.add_lt_add_left (by decide : 1 < 64) _) hr.units
  obtain ⟨t, tw, tx, tn, xv, nv, rfl, ht, htw, htx, htn, hxv, hnv⟩ := pa
  have n1 := po.n1
  have err : ∀ c, metR kv a p = .er c → c.length ≤ 100 → ∀ H2, Same H H2 → ∃ (n : Int) (c' : Str), [V.int (k : Int), .str c] = [.int n, .str c'] ∧ n.natAbs < 4294967296 ∧ c'.length ≤ 100 ∧ ∀ dd, H2 dd = none → E (.ref C) (some dd) (upd H2 dd (LkX n c')) := fun c e hc H2 s2 =>
    ⟨(k : Int), c, rfl, by omega, hc, fun dd nd => qer c e dd _ (fresh s2 nd) (s2.trans (Same.new nd)) upd_same⟩
  refine ⟨_, (pss_cons (ps_set (i := 4) sc_met.nd rfl (.inl rfl) (pe_ix ix_tup (pv 1) pe_int (fun _ _ => rfl)))
      (pss_cons (ps_if (pt_not (pt_val (pe_callB (cr_all rfl) (by rfl) b_all (by decide +kernel) (pa_cons (pe_lc (own := [("_", 11), ("name", 9)]) rfl sc_met.nd (pi_tup (pv 4)) (blkOk_by (own := [("_", 11), ("name", 9)]) (N := ["index", "part", "address", "exported", "needs", "words", "too_far", "offset", "form", "name", "word", "_"]) (sc := (defScope s_met)) (by decide +kernel)) (fun _ _ _ _ _ => (pg_tupK (K' := K) (n := 3) (by rfl) (by rfl) (pgs_cons (pg_name (i := 11) sc_met.nd (by rfl) (Or.inl (by rfl)) (by first | exact Or.inl rfl | exact Or.inr rfl)) (pgs_cons (pg_name (i := 11) sc_met.nd (by rfl) (Or.inl (by rfl)) (by first | exact Or.inl rfl | exact Or.inr rfl)) (pgs_cons (pg_name (i := 9) sc_met.nd (by rfl) (Or.inl (by rfl)) (by first | exact Or.inl rfl | exact Or.inr rfl)) pgs_nil))))) (fun _ _ _ _ _ => pts_nil) (fun _ _ _ _ _ => (pe_cmp (pc_din hu (pv 9) (pv 3))))) pa_nil)))) (pss_one (ps_raiseL rfl TE hr (takes_of rfl rfl rfl rfl) (pa_cons (pv 0) (pa_cons pe_str pa_nil)))) pss_nil)
      (Evl.pss_cut (ps_set (i := 5) sc_met.nd rfl (.inl rfl) (pe_callTy call_listQ (by rfl) b_list (by decide +kernel) (pa_cons (pe_ix ix_tup (pv 1) pe_int (fun _ _ => rfl)) pa_nil)))
      (pss_cons (ps_set (i := 6) sc_met.nd rfl (.inl rfl) pe_bl)
      (Evl.pss_cut (ps_for (passes_of rfl) rfl (pi_tup (pv 4)) (pg_tup rfl (pgs_cons (pg_name (i := 7) sc_met.nd rfl (.inl rfl)) (pgs_cons (pg_name (i := 8) sc_met.nd rfl (.inl rfl)) (pgs_cons (pg_name (i := 9) sc_met.nd rfl (.inl rfl)) pgs_nil))))
      (pss_cons (ps_if (pt_not (pt_val (pe_cd c_has_form hr (by first | decide | omega) (by rfl) (pa_cons (pv 8) (pa_cons (pe_ix ix_list (pv 5) (pe_op op_fdiv (pv 7) pe_int) (fun _ _ => rfl)) pa_nil))))) (pss_one (ps_raiseL rfl TE hr (takes_of rfl rfl rfl rfl) (pa_cons (pv 0) (pa_cons pe_str pa_nil)))) pss_nil)
      (pss_cons (ps_set (i := 10) sc_met.nd rfl (.inl rfl) (pe_cd c_changed hr (by first | decide | omega) (by rfl) (pa_cons (pv 8) (pa_cons (pe_ix ix_list (pv 5) (pe_op op_fdiv (pv 7) pe_int) (fun _ _ => rfl)) (pa_cons (pe_op op_add (pv 2) (pv 7)) (pa_cons (pe_dget hu (pv 3) (pv 9) (fun _ _ => rfl)) pa_nil))))))
      (pss_one (ps_if (pt_cmpR op_isNQ (pv 10) pe_non (nomark _)) (pss_one (ps_set (i := 6) sc_met.nd rfl (.inl rfl) pe_bl)) (pss_one (ps_asg (pv 10) (pg_sub (pv 5) (pe_op op_fdiv (pv 7) pe_int) set_list))))))))
      (pss_cons (ps_if (pt_val (pv 6)) (pss_one (ps_raiseL rfl TE hr (takes_of rfl rfl rfl rfl) (pa_cons (pv 0) (pa_cons pe_str pa_nil)))) pss_nil)
      (pss_one (ps_ret (pv 5))))))))), ?_⟩
  (with_reducible refine w_seq ?_)
  (with_reducible refine w_asg ?_)
  (with_reducible refine w_op ?_)
  ((with_reducible refine' w_var ?hv ?_); (case hv => exact rfl))
  (with_reducible refine w_c ?_)
  ((with_reducible refine' w_ixT ?hh ?ha ?_); (case hh => assumption); (case ha => exact rfl))
  (with_reducible refine w_name ?_)
  (with_reducible refine w_seq ?_)
  (with_reducible refine w_ifS ?_)
  (with_reducible refine w_notT ?_)
  (with_reducible refine w_B ?_)
  (with_reducible refine w_cb ?_)
  (with_reducible refine w_cons ?_)
  (with_reducible refine w_lc ?_)
  (with_reducible refine w_iT ?_)
  ((with_reducible refine' w_var ?hv ?_); (case hv => exact rfl))
  refine w_lcT nv (fun D i H' => LcAt H ((p.ns.map (needB kv)).map V.bl) D i H') (.of htn) LcAt.start (fun D i H' _ h => .of (h.2.1 _ _ htn)) (fun D i x H' hx h => ?_) (fun D H1 nD h => ?_)
  · obtain ⟨e, he, ea⟩ := hnv.at hx
    obtain ⟨te, rfl, hte⟩ := ea.tk (TK.same h.2.1)
    have hy : ((p.ns.map (needB kv)).map V.bl)[i]? = some (.bl (needB kv e)) := by rw [List.getElem?_map, List.getElem?_map, he]; rfl
    ((with_reducible refine' w_gTup ?hh ?hn ?_); (case hh => assumption); (case hn => exact rfl))
    (with_reducible refine w_gCons ?_)
    (with_reducible refine w_name ?_)
    (with_reducible refine w_gCons ?_)
    (with_reducible refine w_name ?_)
    (with_reducible refine w_gCons ?_)
    (with_reducible refine w_name ?_)
    (with_reducible refine w_gNil ?_)
    refine ⟨rfl, ?_⟩
    (with_reducible refine w_yes ?_)
    (with_reducible refine w_itT ?_)
    (with_reducible refine w_din ?_)
    ((with_reducible refine' w_var ?hv ?_); (case hv => exact rfl))
    ((with_reducible refine' w_var ?hv ?_); (case hv => exact rfl))
    refine ⟨d, _, rfl, kv_get (h.2.1 _ _ hd) e.2.2, ?_⟩
    have e1 : ((lk kv e.2.2).map V.int).isSome = needB kv e := by unfold needB; cases lk kv e.2.2 <;> rfl
    rw [e1]
    exact h.fin hy (by rw [List.length_map, List.length_map]; exact small1000 (by omega)) (Same.refl _)
  obtain ⟨s1, hD⟩ := h.all (by simp [hnv.1])
  (with_reducible refine w_nil ?_)
  refine w_allB hD ?_
  cases en : (p.ns.map (needB kv)).all id with
  | false =>
    (with_reducible refine w_bl ?_)
    (with_reducible refine w_nF ?_)
    (with_reducible refine w_raiseL ?_)
    (with_reducible refine w_cons ?_)
    ((with_reducible refine' w_var ?hv ?_); (case hv => exact rfl))
    (with_reducible refine w_cons ?_)
    (with_reducible refine w_c ?_)
    (with_reducible refine w_nil ?_)
    exact err "need" (by unfold metR; rw [if_pos en]) (by decide +kernel) H1 s1
  | true =>
    (with_reducible refine w_bl ?_)
    (with_reducible refine w_nT ?_)
    (with_reducible refine w_next ?_)
    refine Evl.q_cut (M := fun σ' H' => Same H H' ∧ ∃ r : Addr, H r = none ∧ H' r = some (.lst (p.ws.map V.int)) ∧ ∃ v : Option V, σ' = [some (.int (k : Int)), some (.ref t), some (.int a), some (.ref d), some (.ref tn), some (.ref r), v, none, none, none, none, none]) ?_ ?_
    · have ht1 := s1 _ _ ht
      (with_reducible refine w_asg ?_)
      (with_reducible refine w_cb ?_)
      (with_reducible refine w_cons ?_)
      (with_reducible refine w_op ?_)
      ((with_reducible refine' w_var ?hv ?_); (case hv => exact rfl))
      (with_reducible refine w_c ?_)
      ((with_reducible refine' w_ixT ?hh ?ha ?_); (case hh => assumption); (case ha => exact rfl))
      (with_reducible refine w_nil ?_)
      refine w_listT (.of (s1 _ _ htw)) fun r H2 nr s2 hr2 => ?_
      (with_reducible refine w_name ?_)
      exact ⟨s1.trans s2, r, fresh s1 nr, hr2, _, rfl⟩
    rintro σ' H2 ⟨s2, r, nr, hr2, v6, rfl⟩
    have all1 := fun e (he : e ∈ p.ns) => all_at en he
    refine Evl.q_cut (M := fun σ' H' => (p.ns.map (formB p)).all id = true ∧ Same H H' ∧ H' r = some (.lst ((outN kv a p p.ns.length).map V.int)) ∧ ∃ v7 v8 v9 v10 v11 : Option V, σ' = [some (.int (k : Int)), some (.ref t), some (.int a), some (.ref d), some (.ref tn), some (.ref r), some (.bl (!(p.ns.map (rangB kv a p)).all id)), v7, v8, v9, v10, v11]) ?_ ?_
    · (with_reducible refine w_for ?_)
      (with_reducible refine w_iT ?_)
      ((with_reducible refine' w_var ?hv ?_); (case hv => exact rfl))
      refine w_forT nv (fun i σ H' => Same H H' ∧ H' r = some (.lst ((outN kv a p i).map V.int)) ∧ ((p.ns.take i).map (formB p)).all id = true ∧ ∃ v7 v8 v9 v10 v11 : Option V, σ = [some (.int (k : Int)), some (.ref t), some (.int a), some (.ref d), some (.ref tn), some (.ref r), some (.bl (!((p.ns.take i).map (rangB kv a p)).all id)), v7, v8, v9, v10, v11]) (.of (s2 _ _ htn)) ⟨s2, hr2, rfl, _, _, _, _, _, rfl⟩ (fun i σ H' _ h => .of (h.1 _ _ htn)) (fun i x σ H3 hx h => ?_) (fun σ H3 h => ?_)
      · obtain ⟨s3, hr3, fo, v7, v8, v9, v10, v11, rfl⟩ := h
        obtain ⟨e, he, ea⟩ := hnv.at hx
        obtain ⟨te, rfl, hte⟩ := ea.tk (TK.same s3)
        have hem := List.mem_of_getElem? he
        obtain ⟨j, w0, ej, hw0, hiw, hfo, hnl⟩ := po.n2 e hem
        have il : i < p.ns.length := (List.getElem?_eq_some_iff.mp he).1
        have ewj : (e.1 / 4).toNat = j := by omega
        have ew : wAt p e = w0 := by unfold wAt; rw [ewj, hw0]; rfl
        have jl : j < p.ws.length := (List.getElem?_eq_some_iff.mp hw0).1
        have w2 := po.w2
        have hwf := po.wd w0 (List.mem_of_getElem? hw0)
        have hou : (outN kv a p i)[(e.1 / 4).toNat]? = some w0 := by rw [outN_at po he, ewj]; exact hw0
        have hat : atI ((outN kv a p i).map V.int) (e.1 / 4) = some (.int w0) := atI_of (by omega) (by rw [List.getElem?_map, hou]; rfl)
        have tk1 : ((p.ns.take (i + 1)).map (formB p)).all id = (((p.ns.take i).map (formB p)).all id && formB p e) := by rw [take_more he, List.map_append, List.all_append]; simp
        have tk2 : ((p.ns.take (i + 1)).map (rangB kv a p)).all id = (((p.ns.take i).map (rangB kv a p)).all id && rangB kv a p e) := by rw [take_more he, List.map_append, List.all_append]; simp
        have st := outN_step (kv := kv) (a := a) he
        obtain ⟨av, hav⟩ := Option.isSome_iff_exists.mp (all1 e hem)
        have hak := hkv.lk hav
        have efil : filN kv a p e = fil e.2.1 w0 (a + e.1) av := by unfold filN; rw [ew, hav]; rfl
        ((with_reducible refine' w_gTup ?hh ?hn ?_); (case hh => assumption); (case hn => exact rfl))
        (with_reducible refine w_gCons ?_)
        (with_reducible refine w_name ?_)
        (with_reducible refine w_gCons ?_)
        (with_reducible refine w_name ?_)
        (with_reducible refine w_gCons ?_)
        (with_reducible refine w_name ?_)
        (with_reducible refine w_gNil ?_)
        (with_reducible refine w_seq ?_)
        (with_reducible refine w_ifS ?_)
        (with_reducible refine w_notT ?_)
        (with_reducible refine w_B ?_)
        (with_reducible refine w_call ?_)
        (with_reducible refine w_cons ?_)
        ((with_reducible refine' w_var ?hv ?_); (case hv => exact rfl))
        (with_reducible refine w_cons ?_)
        (with_reducible refine w_op ?_)
        ((with_reducible refine' w_var ?hv ?_); (case hv => exact rfl))
        (with_reducible refine w_op ?_)
        ((with_reducible refine' w_var ?hv ?_); (case hv => exact rfl))
        (with_reducible refine w_c ?_)
        ((with_reducible refine w_I ?hc ?_); (case hc => walk_at "side"))
        refine w_ixL hr3 hat ?_
        (with_reducible refine w_nil ?_)
        refine ⟨e.2.1, w0, rfl, hfo, hiw, hwf.2, fun H4 s4 => ?_⟩
        have efm : formB p e = okF e.2.1 w0 := by unfold formB; rw [ew]
        cases ef : okF e.2.1 w0 with
        | false =>
          (with_reducible refine w_bl ?_)
          (with_reducible refine w_nF ?_)
          (with_reducible refine w_raiseL ?_)
          (with_reducible refine w_cons ?_)
          ((with_reducible refine' w_var ?hv ?_); (case hv => exact rfl))
          (with_reducible refine w_cons ?_)
          (with_reducible refine w_c ?_)
          (with_reducible refine w_nil ?_)
          refine err "form" ?_ (by decide +kernel) H4 (s3.trans s4)
          unfold metR
          rw [if_neg (by rw [en]; decide), if_pos]
          exact all_false (i := i) (by rw [List.getElem?_map, he, ← ef, ← efm]; rfl)
        | true =>
          (with_reducible refine w_bl ?_)
          (with_reducible refine w_nT ?_)
          (with_reducible refine w_next ?_)
          (with_reducible refine w_seq ?_)
          (with_reducible refine w_asg ?_)
          (with_reducible refine w_call ?_)
          (with_reducible refine w_cons ?_)
          ((with_reducible refine' w_var ?hv ?_); (case hv => exact rfl))
          (with_reducible refine w_cons ?_)
          (with_reducible refine w_op ?_)
          ((with_reducible refine' w_var ?hv ?_); (case hv => exact rfl))
          (with_reducible refine w_op ?_)
          ((with_reducible refine' w_var ?hv ?_); (case hv => exact rfl))
          (with_reducible refine w_c ?_)
          ((with_reducible refine w_I ?hc ?_); (case hc => walk_at "side"))
          have hr4 := s4 _ _ hr3
          refine w_ixL hr4 hat ?_
          (with_reducible refine w_cons ?_)
          (with_reducible refine w_op ?_)
          ((with_reducible refine' w_var ?hv ?_); (case hv => exact rfl))
          ((with_reducible refine' w_var ?hv ?_); (case hv => exact rfl))
          (with_reducible refine w_I0 ?_)
          (with_reducible refine w_cons ?_)
          (with_reducible refine w_dget ?_)
          ((with_reducible refine' w_var ?hv ?_); (case hv => exact rfl))
          ((with_reducible refine' w_var ?hv ?_); (case hv => exact rfl))
          refine w_kDG (v := .int av) ((s3.trans s4) _ _ hd) (by rw [valKV, hav]; rfl) ?_
          (with_reducible refine w_nil ?_)
          refine ⟨e.2.1, w0, a + e.1, av, rfl, hfo, hiw, hwf.2, ef, by omega, by omega, hak.1, by omega, fun H5 s5 => ?_⟩
          (with_reducible refine w_name ?_)
          (with_reducible refine w_ifS ?_)
          (with_reducible refine w_test ?_)
          (with_reducible refine w_op ?_)
          ((with_reducible refine' w_var ?hv ?_); (case hv => exact rfl))
          (with_reducible refine w_c ?_)
          have hr5 := s5 _ _ hr4
          have s35 := s3.trans (s4.trans s5)
          have fo2 : ((p.ns.take (i + 1)).map (formB p)).all id = true := by rw [tk1, fo, efm, ef]; rfl
          cases eo : (fil e.2.1 w0 (a + e.1) av).opt with
          | none =>
            have er : rangB kv a p e = false := by unfold rangB; rw [efil, eo]; rfl
            simp only [optI]
            (with_reducible refine w_isNN ?_)
            (with_reducible refine w_bl ?_)
            (with_reducible refine w_itT ?_)
            (with_reducible refine w_asg ?_)
            (with_reducible refine w_c ?_)
            (with_reducible refine w_name ?_)
            refine ⟨s35, ?_, fo2, _, _, _, _, _, by rw [tk2, er, Bool.and_false]; rfl⟩
            rw [st]
            unfold setN
            rw [efil, eo]
            exact hr5
          | some nx =>
            have er : rangB kv a p e = true := by unfold rangB; rw [efil, eo]; rfl
            simp only [optI]
            skip
            refine w_isNI ?_
            (with_reducible refine w_bl ?_)
            (with_reducible refine w_itF ?_)
            (with_reducible refine w_asg ?_)
            ((with_reducible refine' w_var ?hv ?_); (case hv => exact rfl))
            (with_reducible refine w_sub ?_)
            ((with_reducible refine' w_var ?hv ?_); (case hv => exact rfl))
            (with_reducible refine w_op ?_)
            ((with_reducible refine' w_var ?hv ?_); (case hv => exact rfl))
            (with_reducible refine w_c ?_)
            ((with_reducible refine w_I ?hc ?_); (case hc => walk_at "side"))
            have hix : ixN ((outN kv a p i).map V.int).length (e.1 / 4) = some (e.1 / 4).toNat := by
              have : (e.1 / 4) = ((j : Nat) : Int) := by omega
              rw [this]
              exact ixN_lit (by rw [List.length_map, outN_len]; exact jl)
            refine w_setL hr5 hix fun H6 hr6 b6 => ?_
            skip
            refine ⟨fun b o hb => b6 b o (fun z => by rw [z, nr] at hb; cases hb) (s35 _ _ hb), ?_, fo2, _, _, _, _, _, by rw [tk2, er, Bool.and_true]; rfl⟩
            rw [st]
            unfold setN
            rw [efil, eo]
            rw [hr6, List.map_set]
      · obtain ⟨s3, hr3, fo, v7, v8, v9, v10, v11, rfl⟩ := h
        rw [hnv.1] at hr3 fo ⊢
        rw [List.take_length] at fo ⊢
        exact ⟨fo, s3, hr3, _, _, _, _, _, rfl⟩
    · rintro σ' H3 ⟨fo, s3, hr3, v7, v8, v9, v10, v11, rfl⟩
      (with_reducible refine w_seq ?_)
      (with_reducible refine w_ifS ?_)
      (with_reducible refine w_B ?_)
      ((with_reducible refine' w_var ?hv ?_); (case hv => exact rfl))
      (with_reducible refine w_bl ?_)
      cases er : (p.ns.map (rangB kv a p)).all id with
      | false =>
        (with_reducible refine w_nF ?_)
        (with_reducible refine w_raiseL ?_)
        (with_reducible refine w_cons ?_)
        ((with_reducible refine' w_var ?hv ?_); (case hv => exact rfl))
        (with_reducible refine w_cons ?_)
        (with_reducible refine w_c ?_)
        (with_reducible refine w_nil ?_)
        refine err "range" ?_ (by decide +kernel) H3 s3
        unfold metR
        rw [if_neg (by rw [en]; decide), if_neg (by rw [fo]; decide), if_pos er]
      | true =>
        (with_reducible refine w_nT ?_)
        (with_reducible refine w_next ?_)
        (with_reducible refine w_ret ?_)
        ((with_reducible refine' w_var ?hv ?_); (case hv => exact rfl))
        refine qok _ ?_ r H3 nr s3 hr3
        unfold metR
        rw [if_neg (by rw [en]; decide), if_neg (by rw [fo]; decide), if_neg (by rw [er]; decide)]
end
end K08


open PySem.W
namespace K08
open TL RZ
theorem sc_link : FnScope ["parts", "addresses", "exported", "words", "segments", "symbols", "image", "index", "part", "address", "row", "name"] ["parts"] (defScope s_link) := ⟨rfl, rfl, rfl, by decide +kernel, rfl, by decide +kernel, by decide +kernel⟩
local macro_rules | `(tactic| walk_at "w1") => `(tactic| first
  | (with_reducible refine w_isS ?_)
  | (with_reducible refine w_din ?_)
  | (with_reducible refine w_dnotin ?_)
  | (with_reducible refine w_dget ?_)
  | (with_reducible refine w_dput ?_)
  | (with_reducible refine w_iEnZ ?_)
  | (with_reducible refine w_z3 ?_)
  | (with_reducible refine w_items ?_)
  | (with_reducible refine w_callB ?_)
  | (with_reducible refine w_callS ?_)
  | (with_reducible refine w_raiseL ?_))
inductive MS
  | ok (W : List (List Int))
  | er (k : Nat) (c : Str)
def mtS (ps : List Part) (kv : KV) : Nat → MS
  | 0 => .ok []
  | i + 1 => match mtS ps kv i with
    | .er k c => .er k c
    | .ok W => match ps[i]? with
      | none => .ok W
      | some p => match metR kv (adN ps i) p with
        | .er c => .er i c
        | .ok ws => .ok (W ++ [ws])
theorem mtS_er {ps : List Part} {kv : KV} {j k : Nat} {c : Str} (h : mtS ps kv j = .er k c) : ∀ m, j ≤ m → mtS ps kv m = .er k c
  | 0, hm => by rw [Nat.le_zero.mp hm] at h; exact h
  | m + 1, hm => by
    rcases Nat.lt_or_ge m j with z | z
    · have : j = m + 1 := by omega
      rw [this] at h
      exact h
    · show (match mtS ps kv m with | .er k c => MS.er k c | .ok W => _) = _
      rw [mtS_er h m z]
theorem mtS_ok {ps : List Part} {kv : KV} {n : Nat} (hok : ∀ p ∈ ps, PartOk p) (hk : KvOk n kv) : ∀ i W, mtS ps kv i = .ok W → W.length = min i ps.length ∧ ∀ ws ∈ W, ws.length ≤ 16500 ∧ ∀ w ∈ ws, 0 ≤ w ∧ w < 4294967296
  | 0, W, e => by cases e; exact ⟨by simp, fun ws h => (by cases h)⟩
  | i + 1, W, e => by
    have e' : (match mtS ps kv i with
      | .er k c => MS.er k c
      | .ok W => match ps[i]? with
        | none => .ok W
        | some p => match metR kv (adN ps i) p with
          | .er c => .er i c
          | .ok ws => .ok (W ++ [ws])) = .ok W := e
    cases q : mtS ps kv i with
    | er k c => rw [q] at e'; cases e'
    | ok W0 =>
      rw [q] at e'
      obtain ⟨l, ih⟩ := mtS_ok hok hk i W0 q
      simp only at e'
      cases r : ps[i]? with
      | none =>
        rw [r] at e'; cases e'
        have : ps.length ≤ i := List.getElem?_eq_none_iff.mp r
        exact ⟨by omega, ih⟩
      | some p =>
        rw [r] at e'
        simp only at e'
        have il : i < ps.length := (List.getElem?_eq_some_iff.mp r).1
        have po := hok p (List.mem_of_getElem? r)
        cases t : metR kv (adN ps i) p with
        | er c => rw [t] at e'; cases e'
        | ok ws =>
          rw [t] at e'
          cases e'
          refine ⟨by rw [List.length_append, l]; simp; omega, fun ws' hw => ?_⟩
          rcases List.mem_append.mp hw with z | z
          · exact ih ws' z
          · rw [List.mem_singleton.mp z]
            unfold metR at t
            split at t
            · cases t
            · split at t
              · cases t
              · split at t
                · cases t
                · cases t
                  exact ⟨by rw [outN_len]; exact po.w2, outN_fits po hk _⟩
def segJ (ps : List Part) (W : List (List Int)) (j : Nat) : Seg := match ps[j]?, W[j]? with
  | some p, some ws => ⟨adN ps j, byt ws, p.wr, p.ex⟩
  | _, _ => ⟨0, [], false, false⟩
def segL (ps : List Part) (W : List (List Int)) : List Seg := (List.range ps.length).map (segJ ps W)
theorem segL_at {ps : List Part} {W : List (List Int)} {j : Nat} {p : Part} {ws : List Int} (h1 : ps[j]? = some p) (h2 : W[j]? = some ws) : (segL ps W)[j]? = some ⟨adN ps j, byt ws, p.wr, p.ex⟩ := by
  unfold segL
  rw [List.getElem?_map, List.getElem?_range (List.getElem?_eq_some_iff.mp h1).1]
  show some (segJ ps W j) = _
  unfold segJ
  rw [h1, h2]
inductive LnR
  | ok (sg : List Seg) (en : Int) (kv : KV)
  | er (k : Int) (c : Str)
def lnR (ps : List Part) : LnR := match exS ps ps.length with
  | .er k => .er k "export"
  | .ok kv => match mtS ps kv ps.length with
    | .er k c => .er k c
    | .ok W => match lk kv "start" with
      | none => .er (-1) "start"
      | some s => if sizeF (segL ps W) = true then .er (-1) "size" else .ok (segL ps W) s kv
def SyOf (kv : KV) (l : List (Int × Str)) : Prop := l.Perm (kv.map fun e => (e.2, e.1)) ∧ (l.map fun p => pK p.1 p.2).Pairwise pO.kle
theorem SyOf.eq {kv : KV} {l m : List (Int × Str)} (h1 : SyOf kv l) (h2 : SyOf kv m) : l = m := by
  have p := (h1.1.trans h2.1.symm).map (fun p => pK p.1 p.2)
  have e := perm_eq p h1.2 h2.2
  have inj : ∀ (l m : List (Int × Str)), l.map (fun p => pK p.1 p.2) = m.map (fun p => pK p.1 p.2) → l = m := by
    intro l
    induction l with
    | nil => intro m h; cases m with
      | nil => rfl
      | cons _ _ => cases h
    | cons a l ih => intro m h; cases m with
      | nil => cases h
      | cons b m =>
        obtain ⟨h1, h2⟩ := List.cons.inj h
        obtain ⟨e1, e2⟩ := pK_inj h1
        rw [ih m h2, Prod.ext e1 e2]
  exact inj l m e
/-- what a pair holds -/
def dtP (H : Hp) : V → Int × Str
  | .ref t => match H t with
    | some (.tup [.int i, .str z]) => (i, z)
    | _ => (0, "")
  | _ => (0, "")
theorem dtP_at {H : Hp} {v : V} {p : Int × Str} (h : SymAt H v p) : dtP H v = p := by
  obtain ⟨t, rfl, ht⟩ := h
  show (match H t with
    | some (.tup [.int i, .str z]) => (i, z)
    | _ => (0, "")) = p
  rw [ht]
theorem size_mem (im : Im) : decide (("size" : Str) ∈ faults im) = sizeF im.sg := by
  have hb : ∀ b1 b2 b3 b4 b5 : Bool, decide (("size" : Str) ∈ ([(("both" : Str), b1), (("order" : Str), b2), (("segment" : Str), b3), (("size" : Str), b4), (("symbol" : Str), b5)].filterMap fun p => if p.2 = true then some p.1 else none)) = b4 := by decide +kernel
  exact hb _ _ _ _ _
def LsD (D : Addr) (H : Hp) (v : V) (ws : List Int) : Prop := ∃ r : Addr, v = .ref r ∧ r ≠ D ∧ H r = some (.lst (ws.map V.int))
def spLink (C : Addr) : Sp := fun vs H Q E => ∃ (p : Addr) (us : List V) (ps : List Part), vs = [.ref p] ∧ H p = some (.lst us) ∧ Al (PartAt H) us ps ∧ (∀ p ∈ ps, PartOk p) ∧ ps.length ≤ 10 ∧
  (∀ sg en kv l, lnR ps = .ok sg en kv → SyOf kv l → ∀ t H', Same H H' → ImAt H' t ⟨sg, en, l⟩ → Q (.ref t) H') ∧
  (∀ k c, lnR ps = .er k c → ∀ dd H', H dd = none → Same H H' → H' dd = some (LkX k c) → E (.ref C) (some dd) H')
theorem Al.snoc {α : Type} {R : V → α → Prop} {vs : List V} {l : List α} {v : V} {g : α} (h : Al R vs l) (hv : R v g) : Al R (vs ++ [v]) (l ++ [g]) := by
  refine ⟨by rw [List.length_append, List.length_append, h.1]; rfl, fun j x y hx hy => ?_⟩
  by_cases hj : j < vs.length
  · rw [List.getElem?_append_left hj] at hx
    rw [List.getElem?_append_left (by rw [← h.1]; exact hj)] at hy
    exact h.2 j x y hx hy
  · have ej : j = vs.length := by
      have := (List.getElem?_eq_some_iff.mp hx).1
      rw [List.length_append] at this
      simp at this
      omega
    subst ej
    rw [List.getElem?_append_right (Nat.le_refl _), Nat.sub_self] at hx
    rw [h.1, List.getElem?_append_right (Nat.le_refl _), Nat.sub_self] at hy
    cases hx
    cases hy
    exact hv
theorem Al.nil {α : Type} {R : V → α → Prop} : Al R [] ([] : List α) := ⟨rfl, fun i v g h => absurd h (by simp)⟩
/-- sorted, the pairs' data -/
theorem sy_of {H : Hp} {kv : KV} {us ys : List V} (ha : Al (SymAt H) us (kv.map fun e => (e.2, e.1))) (hp : ys.Perm us) (hs : (ys.map (kP H)).Pairwise pO.kle) : ∃ l, Al (SymAt H) ys l ∧ SyOf kv l := by
  have each : ∀ v ∈ ys, SymAt H v (dtP H v) := fun v hv => by
    obtain ⟨i, hi⟩ := List.getElem?_of_mem (hp.mem_iff.mp hv)
    obtain ⟨g, _, sg⟩ := ha.at hi
    rw [dtP_at sg]
    exact sg
  refine ⟨ys.map (dtP H), ⟨by rw [List.length_map], fun i v g h1 h2 => ?_⟩, ?_, ?_⟩
  · rw [List.getElem?_map, h1] at h2
    cases h2
    exact each v (List.mem_of_getElem? h1)
  · have e : us.map (dtP H) = kv.map fun e => (e.2, e.1) := by
      apply List.ext_getElem?
      intro i
      rw [List.getElem?_map]
      cases h : us[i]? with
      | none =>
        have : us.length ≤ i := List.getElem?_eq_none_iff.mp h
        rw [ha.1] at this
        rw [List.getElem?_eq_none this]
        rfl
      | some v =>
        obtain ⟨g, hg, sg⟩ := ha.at h
        rw [hg, ← dtP_at sg]
        rfl
    rw [← e]
    exact hp.map _
  · have e : (ys.map (dtP H)).map (fun p => pK p.1 p.2) = ys.map (kP H) := by
      rw [List.map_map]
      refine List.map_congr_left fun v hv => ?_
      obtain ⟨t, rfl, ht⟩ := each v hv
      rw [kP_at ht]
      rfl
    rw [e]
    exact hs
section
variable {P : Program} {w : World} {K : PySem.W.Frag} {mg : Str → Option Value} {base : Heap}
theorem ok_link {C fI : Addr} (TE : OwnL.Txt P K mg C fI) (b_enumerate : mg "enumerate" = none) (b_zip : mg "zip" = none) (b_tuple : mg "tuple" = none) (b_sorted : mg "sorted" = none) (c_addresses : Cd P w K mg base 1 "_addresses" spAdr) (c_exports : CdX P w K mg base 2 "_exports" (spExp C)) (c_met : CdX P w K mg base 5 "_met" (spMet C)) (c_bytes_of_words : Cd P w K mg base 1 "bytes_of_words" spBytes) (c_image_faults : Cd P w K mg base 4 "image_faults" spFaults) {f : Addr} {fd : FuncData} (F : Fun K "link" "link" s_link f fd) : FnOk P w K mg base (L2.CX P w) 6 f fd ["parts"] (spLink C) := by
  refine F.okX sc_link (fun vs H Q E h => by obtain ⟨p, us, ps, rfl, _⟩ := h; rfl) (fun cdv A outer s H vs Q E hr h => ?_)
  obtain ⟨p, us, ps, rfl, hp, ha, hok, hl, qok, qer⟩ := h
  have hu := Nat.lt_trans (Nat.add_lt_add_left (by decide : 1 < 64) _) hr.units
  unfold lnR at qok qer
  refine ⟨_, (Evl.pss_cut (ps_set (i := 1) sc_link.nd rfl (.inl rfl) (pe_cd c_addresses hr (by first | decide | omega) (by rfl) (pa_cons (pv 0) pa_nil)))
      (Evl.pss_cut (ps_set (i := 2) sc_link.nd rfl (.inr rfl) (pe_cdXT c_exports hr (by first | decide | omega) (by rfl) (takes_of rfl rfl rfl rfl) (pa_cons (pv 0) (pa_cons (pv 1) pa_nil))))
      (Evl.pss_cut (ps_setLcX (i := 3) (own := [("index", 7), ("part", 8), ("address", 9)]) rfl sc_link.nd rfl rfl (takes_of rfl rfl rfl rfl) rfl rfl (sw_true rfl rfl rfl (by decide +kernel)) (pi_enZ (by rfl) b_enumerate (by rfl) b_zip (pa_cons (pv 0) (pa_cons (pv 1) pa_nil))) (blkOk_by (own := [("index", 7), ("part", 8), ("address", 9)]) (N := ["parts", "addresses", "exported", "words", "segments", "symbols", "image", "index", "part", "address", "row", "name"]) (sc := (defScope s_link)) (by decide +kernel)) (fun _ _ _ _ _ _ => (pg_tupK (K' := K) (n := 2) (by rfl) (by rfl) (pgs_cons (pg_name (i := 7) sc_link.nd (by rfl) (Or.inl (by rfl)) (by first | exact Or.inl rfl | exact Or.inr rfl)) (pgs_cons (pg_tupK (K' := K) (n := 2) (by rfl) (by rfl) (pgs_cons (pg_name (i := 8) sc_link.nd (by rfl) (Or.inl (by rfl)) (by first | exact Or.inl rfl | exact Or.inr rfl)) (pgs_cons (pg_name (i := 9) sc_link.nd (by rfl) (Or.inl (by rfl)) (by first | exact Or.inl rfl | exact Or.inr rfl)) pgs_nil))) pgs_nil)))) (fun _ _ _ _ _ _ => pts_nil) (fun _ _ _ _ _ _ rz => (pe_cdXB c_met hr (by first | decide | omega) (by rfl) rz (pa_cons (pv 7) (pa_cons (pv 8) (pa_cons (pv 9) (pa_cons (pv 2) pa_nil)))))))
      (pss_cons (ps_if (pt_cmp (pc_dnotin hu pe_str (pv 2))) (pss_one (ps_raiseL rfl TE hr (takes_of rfl rfl rfl rfl) (pa_cons (pe_un un_neg pe_int) (pa_cons pe_str pa_nil)))) pss_nil)
      (Evl.pss_cut (ps_set (i := 4) sc_link.nd rfl (.inl rfl) (pe_callTy call_tupQ (by rfl) b_tuple (by decide +kernel) (pa_cons (pe_lc (own := [("part", 8), ("address", 9), ("row", 10)]) rfl sc_link.nd (pi_zip3 (by rfl) b_zip (pa_cons (pv 0) (pa_cons (pv 1) (pa_cons (pv 3) pa_nil)))) (blkOk_by (own := [("part", 8), ("address", 9), ("row", 10)]) (N := ["parts", "addresses", "exported", "words", "segments", "symbols", "image", "index", "part", "address", "row", "name"]) (sc := (defScope s_link)) (by decide +kernel)) (fun _ _ _ _ _ => (pg_tupK (K' := K) (n := 3) (by rfl) (by rfl) (pgs_cons (pg_name (i := 8) sc_link.nd (by rfl) (Or.inl (by rfl)) (by first | exact Or.inl rfl | exact Or.inr rfl)) (pgs_cons (pg_name (i := 9) sc_link.nd (by rfl) (Or.inl (by rfl)) (by first | exact Or.inl rfl | exact Or.inr rfl)) (pgs_cons (pg_name (i := 10) sc_link.nd (by rfl) (Or.inl (by rfl)) (by first | exact Or.inl rfl | exact Or.inr rfl)) pgs_nil))))) (fun _ _ _ _ _ => pts_nil) (fun _ _ _ _ _ => (pe_tup (pa_cons (pv 9) (pa_cons (pe_callTy (call_tupQK (K' := K) (by rfl)) (by rfl) b_tuple (by decide +kernel) (pa_cons (pe_cd c_bytes_of_words hr (by first | decide | omega) (by rfl) (pa_cons (pv 10) pa_nil)) pa_nil)) (pa_cons (pe_ix (ix_tupK (K' := K) (by rfl)) (pv 8) pe_int (fun _ _ => rfl)) (pa_cons (pe_ix (ix_tupK (K' := K) (by rfl)) (pv 8) pe_int (fun _ _ => rfl)) pa_nil))))))) pa_nil)))
      (Evl.pss_cut (ps_set (i := 5) sc_link.nd rfl (.inl rfl) (pe_callTy call_tupQ (by rfl) b_tuple (by decide +kernel) (pa_cons (pe_callB Co.cr_sortedP (by rfl) b_sorted (by decide +kernel) (pa_cons (pe_lock (pe_lc (own := [("name", 11), ("address", 9)]) rfl sc_link.nd (pi_items (pv 2)) (blkOk_by (own := [("name", 11), ("address", 9)]) (N := ["parts", "addresses", "exported", "words", "segments", "symbols", "image", "index", "part", "address", "row", "name"]) (sc := (defScope s_link)) (by decide +kernel)) (fun _ _ _ _ _ => (pg_tupK (K' := K) (n := 2) (by rfl) (by rfl) (pgs_cons (pg_name (i := 11) sc_link.nd (by rfl) (Or.inl (by rfl)) (by first | exact Or.inl rfl | exact Or.inr rfl)) (pgs_cons (pg_name (i := 9) sc_link.nd (by rfl) (Or.inl (by rfl)) (by first | exact Or.inl rfl | exact Or.inr rfl)) pgs_nil)))) (fun _ _ _ _ _ => pts_nil) (fun _ _ _ _ _ => (pe_tup (pa_cons (pv 9) (pa_cons (pv 11) pa_nil)))))) pa_nil)) pa_nil)))
      (pss_cons (ps_set (i := 6) sc_link.nd rfl (.inl rfl) (pe_tup (pa_cons (pv 4) (pa_cons (pe_dget hu (pv 2) pe_str (fun _ _ => rfl)) (pa_cons (pv 5) pa_nil)))))
      (pss_cons (ps_if (pt_cmpR op_in_seq pe_str (pe_cd c_image_faults hr (by first | decide | omega) (by rfl) (pa_cons (pv 6) pa_nil)) rfl) (pss_one (ps_raiseL rfl TE hr (takes_of rfl rfl rfl rfl) (pa_cons (pe_un un_neg pe_int) (pa_cons pe_str pa_nil)))) pss_nil)
      (pss_one (ps_ret (pv 6))))))))))), ?_⟩
  refine Evl.q_cut (M := fun σ' H' => Same H H' ∧ ∃ r : Addr, H' r = some (.lst ((adrs ps).map V.int)) ∧ σ' = [some (.ref p), some (.ref r), none, none, none, none, none, none, none, none, none, none]) ?_ ?_
  · (with_reducible refine w_asg ?_)
    (with_reducible refine w_call ?_)
    (with_reducible refine w_cons ?_)
    ((with_reducible refine' w_var ?hv ?_); (case hv => exact rfl))
    (with_reducible refine w_nil ?_)
    refine ⟨p, us, ps, rfl, hp, ha, hok, hl, fun r H1 nr s1 hr1 => ?_⟩
    (with_reducible refine w_name ?_)
    exact ⟨s1, r, hr1, rfl⟩
  rintro σ' H1 ⟨s1, r, hr1, rfl⟩
  refine Evl.q_cut (M := fun σ' H' => Same H1 H' ∧ ∃ (d : Addr) (kv : KV), exS ps ps.length = .ok kv ∧ H' d = some (.dK (kvK kv)) ∧ σ' = [some (.ref p), some (.ref r), some (.ref d), none, none, none, none, none, none, none, none, none]) ?_ ?_
  · (with_reducible refine w_asg ?_)
    (with_reducible refine w_callB ?_)
    (with_reducible refine w_cons ?_)
    ((with_reducible refine' w_var ?hv ?_); (case hv => exact rfl))
    (with_reducible refine w_cons ?_)
    ((with_reducible refine' w_var ?hv ?_); (case hv => exact rfl))
    (with_reducible refine w_nil ?_)
    refine ⟨p, r, us, ps, rfl, s1 _ _ hp, ha.imp (fun v g h => h.tk (TK.same s1)), hok, hl, hr1, fun kv ek d H2 nd s2 hd => ?_, fun k ek d H2 nd s2 hd => ?_⟩
    · (with_reducible refine w_name ?_)
      exact ⟨s2, d, kv, ek, hd, rfl⟩
    · exact qer (k : Int) "export" (by rw [ek]) d H2 (fresh s1 nd) (s1.trans s2) hd
  rintro σ' H2 ⟨s2, d, kv, ek, hd, rfl⟩
  simp only [ek] at qok qer
  have kvo := exS_ok hok hl _ kv ek
  have kvo2 : KvOk 1000 kv := ⟨by have := kvo.1; omega, kvo.2⟩
  have s02 := s1.trans s2
  refine Evl.q_cut (M := fun σ' H' => Same H2 H' ∧ ∃ (D : Addr) (rs : List V) (W : List (List Int)), mtS ps kv ps.length = .ok W ∧ H' D = some (.lst rs) ∧ Al (LsD D H') rs W ∧ σ' = [some (.ref p), some (.ref r), some (.ref d), some (.ref D), none, none, none, none, none, none, none, none]) ?_ ?_
  · (with_reducible refine w_asg ?_)
    (with_reducible refine w_lc ?_)
    (with_reducible refine w_iEnZ ?_)
    (with_reducible refine w_cons ?_)
    ((with_reducible refine' w_var ?hv ?_); (case hv => exact rfl))
    (with_reducible refine w_cons ?_)
    ((with_reducible refine' w_var ?hv ?_); (case hv => exact rfl))
    (with_reducible refine w_nil ?_)
    refine w_lcEZ us ((adrs ps).map V.int) (fun D i H' => H2 D = none ∧ Same H2 H' ∧ ∃ (rs : List V) (W : List (List Int)), mtS ps kv i = .ok W ∧ rs.length = i ∧ H' D = some (.lst rs) ∧ Al (LsD D H') rs W) (.of (s02 _ _ hp)) (.of (s2 _ _ hr1)) (by rw [ha.1, List.length_map, adrs_len]) (fun D nD => ⟨nD, Same.new nD, [], [], rfl, rfl, upd_same, Al.nil⟩) (fun D i H' h => ⟨.of (h.2.1 _ _ (s02 _ _ hp)), .of (h.2.1 _ _ (s2 _ _ hr1))⟩) (fun D i x y T Pp H3 H4 hx hy h nT nP s4 hP hT => ?_) (fun D H' nD h => ?_)
    · obtain ⟨nD, s3, rs, W, em, hri, hD, hrw⟩ := h
      obtain ⟨g, hg, pa⟩ := ha.at hx
      have il : i < ps.length := (List.getElem?_eq_some_iff.mp hg).1
      obtain ⟨a, hya, rfl⟩ := map_get hy
      rw [adrs_at il] at hya
      cases hya
      have po := hok g (List.mem_of_getElem? hg)
      obtain ⟨a0, a1, a2⟩ := adN_le hok i
      have s34 := s3.trans s4
      have st : mtS ps kv (i + 1) = (match metR kv (adN ps i) g with
          | .er c => MS.er i c
          | .ok ws => .ok (W ++ [ws])) := by
        show (match mtS ps kv i with | .er k c => MS.er k c | .ok W => match ps[i]? with | none => .ok W | some p => _) = _
        rw [em, hg]
      ((with_reducible refine' w_gTup ?hh ?hn ?_); (case hh => assumption); (case hn => exact rfl))
      (with_reducible refine w_gCons ?_)
      (with_reducible refine w_name ?_)
      (with_reducible refine w_gCons ?_)
      ((with_reducible refine' w_gTup ?hh ?hn ?_); (case hh => assumption); (case hn => exact rfl))
      (with_reducible refine w_gCons ?_)
      (with_reducible refine w_name ?_)
      (with_reducible refine w_gCons ?_)
      (with_reducible refine w_name ?_)
      (with_reducible refine w_gNil ?_)
      (with_reducible refine w_gNil ?_)
      refine ⟨rfl, ?_⟩
      (with_reducible refine w_yes ?_)
      (with_reducible refine w_itT ?_)
      (with_reducible refine w_callB ?_)
      (with_reducible refine w_cons ?_)
      ((with_reducible refine' w_var ?hv ?_); (case hv => exact rfl))
      (with_reducible refine w_cons ?_)
      ((with_reducible refine' w_var ?hv ?_); (case hv => exact rfl))
      (with_reducible refine w_cons ?_)
      ((with_reducible refine' w_var ?hv ?_); (case hv => exact rfl))
      (with_reducible refine w_cons ?_)
      ((with_reducible refine' w_var ?hv ?_); (case hv => exact rfl))
      (with_reducible refine w_nil ?_)
      refine ⟨i, x, g, adN ps i, d, kv, rfl, by omega, pa.tk (TK.same (s02.trans s34)), po, by omega, by omega, s34 _ _ hd, kvo2, fun ws ew r5 H5 nr5 s5 hr5 => ?_, fun c ec dd H5 nd5 s5 hd5 => ?_⟩
      · have hD5 := s5 _ _ (s4 _ _ hD)
        have neD : r5 ≠ D := fun z => by rw [z, s4 _ _ hD] at nr5; cases nr5
        refine ⟨rs, hD5, by rw [hri]; exact small1000 (by omega), nD, fun b o hb => ?_, rs ++ [.ref r5], W ++ [ws], by rw [st, ew], by rw [List.length_append, hri]; rfl, upd_same, ?_⟩
        · rw [upd_ne (ne_of_none hb nD)]
          exact s5 _ _ (s34 _ _ hb)
        · refine Al.snoc (hrw.imp fun v w2 h => ?_) ⟨r5, rfl, neD, by rw [upd_ne neD]; exact hr5⟩
          obtain ⟨r6, e6, n6, h6⟩ := h
          exact ⟨r6, e6, n6, by rw [upd_ne n6]; exact s5 _ _ (s4 _ _ h6)⟩
      · have e1 := mtS_er (st.trans (by rw [ec])) ps.length il
        refine qer (i : Int) c (by rw [e1]) dd H5 ?_ (s02.trans (s34.trans s5)) hd5
        exact fresh (s02.trans s34) nd5
    · obtain ⟨_, s3, rs, W, em, hri, hD, hrw⟩ := h
      rw [ha.1] at em
      (with_reducible refine w_name ?_)
      exact ⟨s3, D, rs, W, em, hD, hrw, rfl⟩
  rintro σ' H3 ⟨s3, D, rs, W, em, hD, hrw, rfl⟩
  simp only [em] at qok qer
  obtain ⟨wl, wf⟩ := mtS_ok hok kvo _ W em
  rw [Nat.min_self] at wl
  have s03 := s02.trans s3
  have hd3 := s3 _ _ hd
  (with_reducible refine w_seq ?_)
  (with_reducible refine w_ifS ?_)
  (with_reducible refine w_B ?_)
  (with_reducible refine w_dnotin ?_)
  (with_reducible refine w_c ?_)
  ((with_reducible refine' w_var ?hv ?_); (case hv => exact rfl))
  refine ⟨d, _, rfl, kv_get hd3 "start", ?_⟩
  cases es : lk kv "start" with
  | none =>
    simp only [es] at qok qer
    simp only [Option.map_none, Option.isSome_none]
    (with_reducible refine w_bl ?_)
    (with_reducible refine w_nF ?_)
    (with_reducible refine w_raiseL ?_)
    (with_reducible refine w_cons ?_)
    (with_reducible refine w_un ?_)
    (with_reducible refine w_c ?_)
    (with_reducible refine w_U ?_)
    (with_reducible refine w_cons ?_)
    (with_reducible refine w_c ?_)
    (with_reducible refine w_nil ?_)
    refine ⟨-1, "start", rfl, by decide, by decide +kernel, fun dd nd => ?_⟩
    exact qer (-1) "start" rfl dd _ (fresh s03 nd) (s03.trans (Same.new nd)) upd_same
  | some sv =>
    simp only [es] at qok qer
    simp only [Option.map_some, Option.isSome_some]
    (with_reducible refine w_bl ?_)
    (with_reducible refine w_nT ?_)
    (with_reducible refine w_next ?_)
    refine Evl.q_cut (M := fun σ' H' => Same H3 H' ∧ ∃ (tg : Addr) (gs : List V), H' tg = some (.tup gs) ∧ Al (SegAt H') gs (segL ps W) ∧ σ' = [some (.ref p), some (.ref r), some (.ref d), some (.ref D), some (.ref tg), none, none, none, none, none, none, none]) ?_ ?_
    · (with_reducible refine w_asg ?_)
      (with_reducible refine w_cb ?_)
      (with_reducible refine w_cons ?_)
      (with_reducible refine w_lc ?_)
      (with_reducible refine w_z3 ?_)
      (with_reducible refine w_cons ?_)
      ((with_reducible refine' w_var ?hv ?_); (case hv => exact rfl))
      (with_reducible refine w_cons ?_)
      ((with_reducible refine' w_var ?hv ?_); (case hv => exact rfl))
      (with_reducible refine w_cons ?_)
      ((with_reducible refine' w_var ?hv ?_); (case hv => exact rfl))
      (with_reducible refine w_nil ?_)
      refine w_lcZ3 us ((adrs ps).map V.int) rs (fun D2 i H' => H3 D2 = none ∧ Same H3 H' ∧ ∃ gs : List V, gs.length = i ∧ H' D2 = some (.lst gs) ∧ Al (SegAt H') gs ((segL ps W).take i)) (.of (s03 _ _ hp)) (.of (s3 _ _ (s2 _ _ hr1))) (.of hD) (by rw [ha.1, List.length_map, adrs_len]) (by rw [ha.1, hrw.1, wl]) (fun D2 nD => ⟨nD, Same.new nD, [], rfl, upd_same, Al.nil⟩) (fun D2 i H' h => ⟨.of (h.2.1 _ _ (s03 _ _ hp)), .of (h.2.1 _ _ (s3 _ _ (s2 _ _ hr1))), .of (h.2.1 _ _ hD)⟩) (fun D2 i x y z T H4 H5 hx hy hz h nT s5 hT => ?_) (fun D2 H4 nD h => ?_)
      · obtain ⟨nD, s4, gs, hgi, hD2, hga⟩ := h
        obtain ⟨g, hg, pa⟩ := ha.at hx
        have il : i < ps.length := (List.getElem?_eq_some_iff.mp hg).1
        obtain ⟨a, hya, rfl⟩ := map_get hy
        rw [adrs_at il] at hya
        cases hya
        obtain ⟨ws, hws, lw⟩ := hrw.at hz
        obtain ⟨r5, rfl, _, hr5⟩ := lw
        have s45 := s4.trans s5
        obtain ⟨wf1, wf2⟩ := wf ws (List.mem_of_getElem? hws)
        obtain ⟨t, tw, tx, tn, xv, nv, rfl, ht, htw, htx, htn, hxv, hnv⟩ := pa.tk (TK.same (s03.trans s45))
        have sg : (segL ps W)[i]? = some ⟨adN ps i, byt ws, g.wr, g.ex⟩ := segL_at hg hws
        have hD5 := s5 _ _ hD2
        ((with_reducible refine' w_gTup ?hh ?hn ?_); (case hh => assumption); (case hn => exact rfl))
        (with_reducible refine w_gCons ?_)
        (with_reducible refine w_name ?_)
        (with_reducible refine w_gCons ?_)
        (with_reducible refine w_name ?_)
        (with_reducible refine w_gCons ?_)
        (with_reducible refine w_name ?_)
        (with_reducible refine w_gNil ?_)
        refine ⟨rfl, ?_⟩
        (with_reducible refine w_yes ?_)
        (with_reducible refine w_itT ?_)
        (with_reducible refine w_tup ?_)
        (with_reducible refine w_cons ?_)
        ((with_reducible refine' w_var ?hv ?_); (case hv => exact rfl))
        (with_reducible refine w_cons ?_)
        (with_reducible refine w_cb ?_)
        (with_reducible refine w_cons ?_)
        (with_reducible refine w_call ?_)
        (with_reducible refine w_cons ?_)
        ((with_reducible refine' w_var ?hv ?_); (case hv => exact rfl))
        (with_reducible refine w_nil ?_)
        refine ⟨r5, ws, rfl, s45 _ _ hr5, wf1, wf2, fun r6 H6 nr6 s6 hr6 => ?_⟩
        (with_reducible refine w_nil ?_)
        refine w_tupL (.of hr6) fun t7 H7 n7 s7 ht7 => ?_
        have ht' := s7 _ _ (s6 _ _ ht)
        (with_reducible refine w_cons ?_)
        (with_reducible refine w_op ?_)
        ((with_reducible refine' w_var ?hv ?_); (case hv => exact rfl))
        (with_reducible refine w_c ?_)
        ((with_reducible refine' w_ixT ?hh ?ha ?_); (case hh => assumption); (case ha => exact rfl))
        (with_reducible refine w_cons ?_)
        (with_reducible refine w_op ?_)
        ((with_reducible refine' w_var ?hv ?_); (case hv => exact rfl))
        (with_reducible refine w_c ?_)
        ((with_reducible refine' w_ixT ?hh ?ha ?_); (case hh => assumption); (case ha => exact rfl))
        (with_reducible refine w_nil ?_)
        refine w_kTup (by show 4 ≤ sizeLine; decide) fun t8 H8 n8 s8 ht8 => ?_
        have s58 := s6.trans (s7.trans s8)
        refine ⟨gs, s58 _ _ hD5, by rw [hgi]; exact small1000 (by omega), nD, fun b o hb => ?_, gs ++ [.ref t8], by rw [List.length_append, hgi]; rfl, upd_same, ?_⟩
        · rw [upd_ne (ne_of_none hb nD)]
          exact s58 _ _ (s45 _ _ hb)
        · have tk8 : TK H8 (upd H8 D2 (.lst (gs ++ [.ref t8]))) := fun a xs z => by rw [upd_ne (ne_of z (s58 _ _ hD5) (by intro y; cases y))]; exact z
          rw [take_more sg]
          exact Al.snoc (hga.imp fun v g h => (h.tk (TK.same (s5.trans s58))).tk tk8) ⟨t8, t7, rfl, tk8 _ _ ht8, tk8 _ _ (s8 _ _ ht7)⟩
      · obtain ⟨_, s4, gs, hgi, hD2, hga⟩ := h
        (with_reducible refine w_nil ?_)
        refine w_tupL (.of hD2) fun tg H5 ng s5 htg => ?_
        (with_reducible refine w_name ?_)
        have e : (segL ps W).take us.length = segL ps W := List.take_of_length_le (by unfold segL; rw [List.length_map, List.length_range, ha.1]; exact Nat.le_refl _)
        rw [e] at hga
        exact ⟨s4.trans s5, tg, gs, htg, hga.imp fun v g h => h.tk (TK.same s5), rfl⟩
    rintro σ' H4 ⟨s4, tg, gs, htg, hgs, rfl⟩
    have s04 := s03.trans s4
    have hd4 := s4 _ _ hd3
    refine Evl.q_cut (M := fun σ' H' => Same H4 H' ∧ ∃ (ty : Addr) (ys : List V) (l : List (Int × Str)), H' ty = some (.tup ys) ∧ Al (SymAt H') ys l ∧ SyOf kv l ∧ σ' = [some (.ref p), some (.ref r), some (.ref d), some (.ref D), some (.ref tg), some (.ref ty), none, none, none, none, none, none]) ?_ ?_
    · (with_reducible refine w_asg ?_)
      (with_reducible refine w_cb ?_)
      (with_reducible refine w_cons ?_)
      (with_reducible refine w_cb ?_)
      (with_reducible refine w_cons ?_)
      refine w_lock d (kvK kv) hd4 fun od => ?_
      have fz : (upd H4 d (.frz od (.dK (kvK kv)))) d = some (.frz od (.dK (kvK kv))) := upd_same
      have back : ∀ H', (∀ b o, b ≠ d → H4 b = some o → H' b = some o) → Same H4 (upd H' d (.dK (kvK kv))) := fun H' h b o hb => by
        by_cases e : b = d
        · subst e
          rw [hd4] at hb
          rw [upd_same]
          exact hb
        · rw [upd_ne e]
          exact h b o e hb
      (with_reducible refine w_lc ?_)
      (with_reducible refine w_items ?_)
      ((with_reducible refine' w_var ?hv ?_); (case hv => exact rfl))
      refine w_lcI (kvK kv) (fun D2 i H' => D2 ≠ d ∧ H4 D2 = none ∧ (∀ b o, b ≠ d → H4 b = some o → H' b = some o) ∧ H' d = some (.frz od (.dK (kvK kv))) ∧ ∃ ys : List V, ys.length = i ∧ H' D2 = some (.lst ys) ∧ Al (SymAt H') ys ((kv.map fun e => (e.2, e.1)).take i)) fz (fun D2 nD => ?_) (fun D2 i H' h => h.2.2.2.1) (fun D2 i k v T H5 H6 hkv h nT s6 hT => ?_) (fun D2 H5 nD h => ?_)
      · have ne : D2 ≠ d := fun z => by rw [z, upd_same] at nD; cases nD
        have nD4 : H4 D2 = none := by rw [upd_ne ne] at nD; exact nD
        exact ⟨ne, nD4, fun b o hb h => by rw [upd_ne (ne_of_none h nD4), upd_ne hb]; exact h, by rw [upd_ne ne.symm]; exact upd_same, [], rfl, upd_same, Al.nil⟩
      · obtain ⟨ne, nD4, k5, f5, ys, hyi, hD2, hya⟩ := h
        have hke : ∃ e, kv[i]? = some e ∧ k = kS e.1 ∧ v = .int e.2 := by
          unfold kvK at hkv
          rw [List.getElem?_map] at hkv
          obtain ⟨e, he, e2⟩ := Option.map_eq_some_iff.mp hkv
          cases e2
          exact ⟨e, he, rfl, rfl⟩
        obtain ⟨e, he, rfl, rfl⟩ := hke
        have il : i < kv.length := (List.getElem?_eq_some_iff.mp he).1
        have kl := kvo2.1
        have hT' : H6 T = some (.tup [.str e.1, .int e.2]) := hT
        ((with_reducible refine' w_gTup ?hh ?hn ?_); (case hh => assumption); (case hn => exact rfl))
        (with_reducible refine w_gCons ?_)
        (with_reducible refine w_name ?_)
        (with_reducible refine w_gCons ?_)
        (with_reducible refine w_name ?_)
        (with_reducible refine w_gNil ?_)
        refine ⟨rfl, ?_⟩
        (with_reducible refine w_yes ?_)
        (with_reducible refine w_itT ?_)
        (with_reducible refine w_tup ?_)
        (with_reducible refine w_cons ?_)
        ((with_reducible refine' w_var ?hv ?_); (case hv => exact rfl))
        (with_reducible refine w_cons ?_)
        ((with_reducible refine' w_var ?hv ?_); (case hv => exact rfl))
        (with_reducible refine w_nil ?_)
        refine w_kTup (by show 2 ≤ sizeLine; decide) fun t8 H8 n8 s8 ht8 => ?_
        have hD8 := s8 _ _ (s6 _ _ hD2)
        have f8 := s8 _ _ (s6 _ _ f5)
        refine ⟨ys, hD8, by rw [hyi]; exact small1000 (by omega), ne, nD4, fun b o hb h => ?_, by rw [upd_ne ne.symm]; exact f8, ys ++ [.ref t8], by rw [List.length_append, hyi]; rfl, upd_same, ?_⟩
        · rw [upd_ne (ne_of_none h nD4)]
          exact s8 _ _ (s6 _ _ (k5 b o hb h))
        · have tk8 : TK H8 (upd H8 D2 (.lst (ys ++ [.ref t8]))) := fun a xs z => by rw [upd_ne (ne_of z hD8 (by intro y; cases y))]; exact z
          have he' : (kv.map fun e => (e.2, e.1))[i]? = some (e.2, e.1) := by rw [List.getElem?_map, he]; rfl
          rw [take_more he']
          exact Al.snoc (hya.imp fun v g h => (h.tk (TK.same (s6.trans s8))).tk tk8) ⟨t8, rfl, tk8 _ _ ht8⟩
      · obtain ⟨ne, nD4, k5, f5, ys, hyi, hD2, hya⟩ := h
        refine ⟨f5, ?_⟩
        have tk5 : TK H5 (upd H5 d (.dK (kvK kv))) := fun a xs z => by rw [upd_ne (ne_of z f5 (by intro y; cases y))]; exact z
        have sB := back H5 k5
        have hD2' : (upd H5 d (.dK (kvK kv))) D2 = some (.lst ys) := by rw [upd_ne ne]; exact hD2
        have e : (kv.map fun e => (e.2, e.1)).take (kvK kv).length = kv.map fun e => (e.2, e.1) := List.take_of_length_le (by unfold kvK; rw [List.length_map, List.length_map]; exact Nat.le_refl _)
        rw [e] at hya
        have hyb := hya.imp fun v g h => h.tk tk5
        generalize upd H5 d (.dK (kvK kv)) = H6 at *
        (with_reducible refine w_nil ?_)
        refine Co.w_sortedP (.of hD2') (fun x hx => ?_) fun zs q2 H7 hperm hpw nq s7 hq2 => ?_
        · obtain ⟨i, hi⟩ := List.getElem?_of_mem hx
          obtain ⟨g, _, t, e1, e2⟩ := hyb.at hi
          exact ⟨t, _, _, e1, e2⟩
        obtain ⟨l, la, lo⟩ := sy_of hyb hperm hpw
        (with_reducible refine w_nil ?_)
        refine w_tupL (.of hq2) fun ty H8 ny s8 hty => ?_
        (with_reducible refine w_name ?_)
        exact ⟨sB.trans (s7.trans s8), ty, zs, l, hty, la.imp fun v g h => h.tk (TK.same (s7.trans s8)), lo, rfl⟩
    rintro σ' H5 ⟨s5, ty, ys, l, hty, hys, lo, rfl⟩
    have hd5 := s5 _ _ hd4
    (with_reducible refine w_seq ?_)
    (with_reducible refine w_asg ?_)
    (with_reducible refine w_tup ?_)
    (with_reducible refine w_cons ?_)
    ((with_reducible refine' w_var ?hv ?_); (case hv => exact rfl))
    (with_reducible refine w_cons ?_)
    (with_reducible refine w_dget ?_)
    ((with_reducible refine' w_var ?hv ?_); (case hv => exact rfl))
    (with_reducible refine w_c ?_)
    refine w_kDG (v := .int sv) hd5 (by rw [valKV, es]; rfl) ?_
    (with_reducible refine w_cons ?_)
    ((with_reducible refine' w_var ?hv ?_); (case hv => exact rfl))
    (with_reducible refine w_nil ?_)
    refine w_kTup (by show 3 ≤ sizeLine; decide) fun ti H6 ni s6 hti => ?_
    (with_reducible refine w_name ?_)
    (with_reducible refine w_seq ?_)
    (with_reducible refine w_ifS ?_)
    (with_reducible refine w_test ?_)
    (with_reducible refine w_op ?_)
    (with_reducible refine w_c ?_)
    (with_reducible refine w_call ?_)
    (with_reducible refine w_cons ?_)
    ((with_reducible refine' w_var ?hv ?_); (case hv => exact rfl))
    (with_reducible refine w_nil ?_)
    have s06 := (s04.trans s5).trans s6
    have hIm : ImAt H6 ti ⟨segL ps W, sv, l⟩ := ⟨tg, ty, gs, ys, hti, s6 _ _ (s5 _ _ htg), s6 _ _ hty, hgs.imp (fun v g h => h.tk (TK.same (s5.trans s6))), hys.imp (fun v g h => h.tk (TK.same s6))⟩
    have ll : l.length = kv.length := by rw [lo.1.length_eq, List.length_map]
    have hSz : ImSz ⟨segL ps W, sv, l⟩ := by
      refine ⟨by show (segL ps W).length ≤ 1000; unfold segL; rw [List.length_map, List.length_range]; omega, fun g hg => ?_, by show l.length ≤ 1000; rw [ll]; exact kvo2.1, fun pr hpr => ?_⟩
      · obtain ⟨j, hj, rfl⟩ := List.mem_map.mp hg
        show (segJ ps W j).vs.length ≤ 1000000
        unfold segJ
        split
        · rename_i p0 ws0 e1 e2
          show (byt ws0).length ≤ 1000000
          rw [byt_len]
          have := (wf ws0 (List.mem_of_getElem? e2)).1
          omega
        · show (0 : Nat) ≤ 1000000
          decide
      · have := lo.1.mem_iff.mp hpr
        obtain ⟨e, he, rfl⟩ := List.mem_map.mp this
        have := (kvo2.2 e he).2.2.2.1
        show e.1.length ≤ 1000
        omega
    refine ⟨ti, _, rfl, hIm, hSz, fun q2 H7 nq s7 hq => ?_⟩
    refine w_inLs (.of hq) ?_
    rw [size_mem]
    cases ez : sizeF (segL ps W) with
    | true =>
      simp only [ez] at qok qer
      (with_reducible refine w_bl ?_)
      (with_reducible refine w_itT ?_)
      (with_reducible refine w_raiseL ?_)
      (with_reducible refine w_cons ?_)
      (with_reducible refine w_un ?_)
      (with_reducible refine w_c ?_)
      (with_reducible refine w_U ?_)
      (with_reducible refine w_cons ?_)
      (with_reducible refine w_c ?_)
      (with_reducible refine w_nil ?_)
      refine ⟨-1, "size", rfl, by decide, by decide +kernel, fun dd nd => ?_⟩
      exact qer (-1) "size" rfl dd _ (fresh (s06.trans s7) nd) ((s06.trans s7).trans (Same.new nd)) upd_same
    | false =>
      simp only [ez] at qok qer
      (with_reducible refine w_bl ?_)
      (with_reducible refine w_itF ?_)
      (with_reducible refine w_next ?_)
      (with_reducible refine w_ret ?_)
      ((with_reducible refine' w_var ?hv ?_); (case hv => exact rfl))
      exact qok _ _ _ l rfl lo ti H7 (s06.trans s7) ⟨tg, ty, gs, ys, s7 _ _ hti, s7 _ _ (s6 _ _ (s5 _ _ htg)), s7 _ _ (s6 _ _ hty), hgs.imp (fun v g h => h.tk (TK.same (s5.trans (s6.trans s7)))), hys.imp (fun v g h => h.tk (TK.same (s6.trans s7)))⟩
end
end K08


open PySem.W
namespace K08
open TL RZ
theorem sc_law_places : FnScope ["parts", "found", "at", "part"] ["parts"] (defScope s_law_places) := ⟨rfl, rfl, rfl, by decide +kernel, rfl, by decide +kernel, by decide +kernel⟩
theorem sc_law_filled : FnScope ["word", "form", "place", "address", "number", "high", "distance"] ["word", "form", "place", "address"] (defScope s_law_filled) := ⟨rfl, rfl, rfl, by decide +kernel, rfl, by decide +kernel, by decide +kernel⟩
local macro_rules | `(tactic| walk_at "w1") => `(tactic| first
  | (with_reducible refine w_isS ?_))
def filV : Fil → V
  | .form => .str "form"
  | .range => .str "range"
  | .ok x => .int x
def spFil : Sp := fun vs H Q _ => ∃ (f : Str) (x p a : Int), vs = [.int x, .str f, .int p, .int a] ∧ isForm f ∧ 0 ≤ x ∧ x < 4294967296 ∧ 0 ≤ p ∧ p ≤ 10000000 ∧ 0 ≤ a ∧ a ≤ 10000000 ∧ (a - p) % 4 = 0 ∧ ∀ H', Same H H' → Q (filV (fil f x p a)) H'
def spPlaces : Sp := fun vs H Q _ => ∃ (p : Addr) (us : List V) (ps : List Part), vs = [.ref p] ∧ H p = some (.lst us) ∧ Al (PartAt H) us ps ∧ (∀ p ∈ ps, PartOk p) ∧ ps.length ≤ 10 ∧ ∀ r H', H r = none → Same H H' → H' r = some (.lst ((adrs ps).map V.int)) → Q (.ref r) H'
section
variable {P : Program} {w : World} {K : PySem.W.Frag} {mg : Str → Option Value} {base : Heap}
theorem ok_law_filled (b_int : mg "int" = none) (Z : St1 K mg "_law_filled" s_law_filled ["word", "form", "place", "address"]) : Cd P w K mg base 1 "_law_filled" spFil := by
  refine Z.cd sc_law_filled (fun vs H Q E h => by obtain ⟨fo, x, p, a, rfl, _⟩ := h; rfl) (fun f cdv A outer s H vs Q E hr h => ?_)
  obtain ⟨fo, x, p, a, rfl, hf, x0, x1, p0, p1, a0, a1, hd, q0⟩ := h
  have q := q0 H (Same.refl H)
  refine ⟨_, (pss_cons (ps_set (i := 4) sc_law_filled.nd rfl (.inl rfl) (pe_op op_fdiv (pv 0) pe_int))
      (pss_cons (ps_set (i := 5) sc_law_filled.nd rfl (.inl rfl) (pe_op op_fdiv (pe_op op_mod (pe_callTy call_intQ (by rfl) b_int (by decide +kernel) (pa_cons (pe_op op_add (pv 3) pe_int) pa_nil)) (pe_op op_pow pe_int pe_int)) pe_int))
      (pss_cons (ps_if (pt_cmpR op_eq (pv 1) pe_str (nomark _)) (pss_one (ps_ret (pv 3))) pss_nil)
      (pss_cons (ps_if (pt_cmpR op_eq (pv 1) pe_str (nomark _)) (pss_cons (ps_if (pt_cmpR op_ne (pv 4) pe_int (nomark _)) (pss_one (ps_ret pe_str)) pss_nil)
      (pss_cons (ps_set (i := 6) sc_law_filled.nd rfl (.inl rfl) (pe_op op_fdiv (pe_op op_sub (pv 3) (pv 2)) pe_int))
      (pss_cons (ps_if (PW.pt (pw_or (pt_cmpR op_ne (pe_op op_mul pe_int (pv 6)) (pe_op op_sub (pv 3) (pv 2)) (nomark _)) (pw_or1 (pt_not (pt_chain op_le op_le (pe_un un_neg pe_int) (pv 6) pe_int))))) (pss_one (ps_ret pe_str)) pss_nil)
      (pss_one (ps_ret (pe_op op_add (pe_op op_mul (pe_op op_fdiv (pv 0) pe_int) pe_int) (pe_op op_mod (pe_callTy call_intQ (by rfl) b_int (by decide +kernel) (pa_cons (pv 6) pa_nil)) pe_int))))))) pss_nil)
      (pss_cons (ps_if (pt_cmpR op_eq (pv 1) pe_str (nomark _)) (pss_one (ps_ret (pe_ifExp (pt_cmpR op_eq (pv 4) pe_int (nomark _)) (pe_op op_add (pe_op op_mul (pe_op op_fdiv (pv 0) pe_int) pe_int) (pv 5)) pe_str))) pss_nil)
      (pss_cons (ps_if (pt_cmpR op_notIn_seq (pv 4) (pe_lst (pa_cons pe_int (pa_cons pe_int (pa_cons pe_int (pa_cons pe_int (pa_cons pe_int (pa_cons pe_int pa_nil))))))) rfl) (pss_one (ps_ret pe_str)) pss_nil)
      (pss_one (ps_ret (pe_op op_add (pe_op op_mul (pe_op op_fdiv (pv 0) pe_int) pe_int) (pe_op op_mod (pe_callTy call_intQ (by rfl) b_int (by decide +kernel) (pa_cons (pe_op op_sub (pv 3) (pe_op op_mul (pv 5) pe_int)) pa_nil)) pe_int)))))))))), ?_⟩
  have eh : (a + 8192) % 4294967296 / 16384 = hiP a := rfl
  (with_reducible refine w_seq ?_)
  (with_reducible refine w_asg ?_)
  (with_reducible refine w_op ?_)
  ((with_reducible refine' w_var ?hv ?_); (case hv => exact rfl))
  (with_reducible refine w_c ?_)
  ((with_reducible refine w_I ?hc ?_); (case hc => walk_at "side"))
  (with_reducible refine w_name ?_)
  (with_reducible refine w_seq ?_)
  (with_reducible refine w_asg ?_)
  (with_reducible refine w_op ?_)
  (with_reducible refine w_op ?_)
  (with_reducible refine w_cb ?_)
  (with_reducible refine w_cons ?_)
  (with_reducible refine w_op ?_)
  ((with_reducible refine' w_var ?hv ?_); (case hv => exact rfl))
  (with_reducible refine w_c ?_)
  (with_reducible refine w_I0 ?_)
  (with_reducible refine w_nil ?_)
  (with_reducible refine w_int1 ?_)
  (with_reducible refine w_op ?_)
  (with_reducible refine w_c ?_)
  (with_reducible refine w_c ?_)
  (with_reducible refine w_p32 ?_)
  ((with_reducible refine w_I ?hc ?_); (case hc => walk_at "side"))
  (with_reducible refine w_c ?_)
  ((with_reducible refine w_I ?hc ?_); (case hc => walk_at "side"))
  (with_reducible refine w_name ?_)
  (with_reducible refine w_seq ?_)
  (with_reducible refine w_ifS ?_)
  (with_reducible refine w_test ?_)
  (with_reducible refine w_op ?_)
  ((with_reducible refine' w_var ?hv ?_); (case hv => exact rfl))
  (with_reducible refine w_c ?_)
  (with_reducible refine w_eqS ?_)
  (with_reducible refine w_bl ?_)
  rw [eh]
  unfold fil at q
  refine w_dec (fun ew => ?_) (fun ew => ?_)
  · rw [if_pos (show fo = ("word" : Str) from ew)] at q
    (with_reducible refine w_ret ?_)
    ((with_reducible refine' w_var ?hv ?_); (case hv => exact rfl))
    exact q
  · rw [if_neg (show ¬ fo = ("word" : Str) from ew)] at q
    (with_reducible refine w_next ?_)
    (with_reducible refine w_seq ?_)
    (with_reducible refine w_ifS ?_)
    (with_reducible refine w_test ?_)
    (with_reducible refine w_op ?_)
    ((with_reducible refine' w_var ?hv ?_); (case hv => exact rfl))
    (with_reducible refine w_c ?_)
    (with_reducible refine w_eqS ?_)
    (with_reducible refine w_bl ?_)
    refine w_dec (fun ej => ?_) (fun ej => ?_)
    · rw [if_pos (show fo = ("jal" : Str) from ej)] at q
      (with_reducible refine w_seq ?_)
      (with_reducible refine w_ifS ?_)
      (with_reducible refine w_test ?_)
      (with_reducible refine w_op ?_)
      ((with_reducible refine' w_var ?hv ?_); (case hv => exact rfl))
      (with_reducible refine w_c ?_)
      (with_reducible refine w_neI ?_)
      (with_reducible refine w_bl ?_)
      refine w_ndec (fun e1 => ?_) (fun e1 => ?_)
      · rw [if_neg e1] at q
        (with_reducible refine w_ret ?_)
        (with_reducible refine w_c ?_)
        exact q
      · rw [if_pos e1] at q
        (with_reducible refine w_next ?_)
        (with_reducible refine w_seq ?_)
        (with_reducible refine w_asg ?_)
        (with_reducible refine w_op ?_)
        (with_reducible refine w_op ?_)
        ((with_reducible refine' w_var ?hv ?_); (case hv => exact rfl))
        ((with_reducible refine' w_var ?hv ?_); (case hv => exact rfl))
        (with_reducible refine w_I0 ?_)
        (with_reducible refine w_c ?_)
        ((with_reducible refine w_I ?hc ?_); (case hc => walk_at "side"))
        (with_reducible refine w_name ?_)
        (with_reducible refine w_seq ?_)
        (with_reducible refine w_ifS ?_)
        (with_reducible refine w_orT ?_)
        (with_reducible refine w_test ?_)
        (with_reducible refine w_op ?_)
        (with_reducible refine w_op ?_)
        (with_reducible refine w_c ?_)
        ((with_reducible refine' w_var ?hv ?_); (case hv => exact rfl))
        ((with_reducible refine w_I ?hc ?_); (case hc => walk_at "side"))
        (with_reducible refine w_op ?_)
        ((with_reducible refine' w_var ?hv ?_); (case hv => exact rfl))
        ((with_reducible refine' w_var ?hv ?_); (case hv => exact rfl))
        (with_reducible refine w_I0 ?_)
        (with_reducible refine w_neI ?_)
        (with_reducible refine w_bl ?_)
        refine w_ndec (fun e2 => absurd (show 4 * ((a - p) / 4) = a - p by omega) e2) (fun e2 => ?_)
        (with_reducible refine w_notT ?_)
        (with_reducible refine w_test ?_)
        (with_reducible refine w_chain ?_)
        (with_reducible refine w_un ?_)
        (with_reducible refine w_c ?_)
        (with_reducible refine w_U ?_)
        ((with_reducible refine' w_var ?hv ?_); (case hv => exact rfl))
        (with_reducible refine w_I0 ?_)
        (with_reducible refine w_bl ?_)
        refine w_dec (fun e3 => ?_) (fun e3 => ?_)
        · (with_reducible refine w_c ?_)
          (with_reducible refine w_I0 ?_)
          (with_reducible refine w_bl ?_)
          refine w_ndec (fun e4 => ?_) (fun e4 => ?_)
          · rw [if_neg (fun z => e4 z.2)] at q
            (with_reducible refine w_ret ?_)
            (with_reducible refine w_c ?_)
            exact q
          · rw [if_pos ⟨e3, e4⟩] at q
            (with_reducible refine w_next ?_)
            (with_reducible refine w_ret ?_)
            (with_reducible refine w_op ?_)
            (with_reducible refine w_op ?_)
            (with_reducible refine w_op ?_)
            ((with_reducible refine' w_var ?hv ?_); (case hv => exact rfl))
            (with_reducible refine w_c ?_)
            ((with_reducible refine w_I ?hc ?_); (case hc => walk_at "side"))
            (with_reducible refine w_c ?_)
            ((with_reducible refine w_I ?hc ?_); (case hc => walk_at "side"))
            (with_reducible refine w_op ?_)
            (with_reducible refine w_cb ?_)
            (with_reducible refine w_cons ?_)
            ((with_reducible refine' w_var ?hv ?_); (case hv => exact rfl))
            (with_reducible refine w_nil ?_)
            (with_reducible refine w_int1 ?_)
            (with_reducible refine w_c ?_)
            ((with_reducible refine w_I ?hc ?_); (case hc => walk_at "side"))
            (with_reducible refine w_I0 ?_)
            exact q
        · rw [if_neg (fun z => e3 z.1)] at q
          (with_reducible refine w_bl ?_)
          (with_reducible refine w_nF ?_)
          (with_reducible refine w_ret ?_)
          (with_reducible refine w_c ?_)
          exact q
    · rw [if_neg (show ¬ fo = ("jal" : Str) from ej)] at q
      (with_reducible refine w_next ?_)
      (with_reducible refine w_seq ?_)
      (with_reducible refine w_ifS ?_)
      (with_reducible refine w_test ?_)
      (with_reducible refine w_op ?_)
      ((with_reducible refine' w_var ?hv ?_); (case hv => exact rfl))
      (with_reducible refine w_c ?_)
      (with_reducible refine w_eqS ?_)
      (with_reducible refine w_bl ?_)
      refine w_dec (fun eg => ?_) (fun eg => ?_)
      · rw [if_pos (show fo = ("high" : Str) from eg)] at q
        (with_reducible refine w_ret ?_)
        (with_reducible refine w_if ?_)
        (with_reducible refine w_test ?_)
        (with_reducible refine w_op ?_)
        ((with_reducible refine' w_var ?hv ?_); (case hv => exact rfl))
        (with_reducible refine w_c ?_)
        (with_reducible refine w_eqI ?_)
        (with_reducible refine w_bl ?_)
        refine w_dec (fun e1 => ?_) (fun e1 => ?_)
        · rw [if_pos e1] at q
          (with_reducible refine w_op ?_)
          (with_reducible refine w_op ?_)
          (with_reducible refine w_op ?_)
          ((with_reducible refine' w_var ?hv ?_); (case hv => exact rfl))
          (with_reducible refine w_c ?_)
          ((with_reducible refine w_I ?hc ?_); (case hc => walk_at "side"))
          (with_reducible refine w_c ?_)
          ((with_reducible refine w_I ?hc ?_); (case hc => walk_at "side"))
          ((with_reducible refine' w_var ?hv ?_); (case hv => exact rfl))
          (with_reducible refine w_I0 ?_)
          exact q
        · rw [if_neg e1] at q
          (with_reducible refine w_c ?_)
          exact q
      · rw [if_neg (show ¬ fo = ("high" : Str) from eg)] at q
        (with_reducible refine w_next ?_)
        (with_reducible refine w_seq ?_)
        (with_reducible refine w_ifS ?_)
        (with_reducible refine w_test ?_)
        (with_reducible refine w_op ?_)
        ((with_reducible refine' w_var ?hv ?_); (case hv => exact rfl))
        (with_reducible refine w_lst ?_)
        (with_reducible refine w_cons ?_)
        (with_reducible refine w_c ?_)
        (with_reducible refine w_cons ?_)
        (with_reducible refine w_c ?_)
        (with_reducible refine w_cons ?_)
        (with_reducible refine w_c ?_)
        (with_reducible refine w_cons ?_)
        (with_reducible refine w_c ?_)
        (with_reducible refine w_cons ?_)
        (with_reducible refine w_c ?_)
        (with_reducible refine w_cons ?_)
        (with_reducible refine w_c ?_)
        (with_reducible refine w_nil ?_)
        refine w_kLst (by show 6 ≤ sizeLine; decide) fun pl H1 n1 s1 h1 => ?_
        have q1 := q0 H1 s1
        unfold fil at q1
        rw [if_neg (show ¬ fo = ("word" : Str) from ew), if_neg (show ¬ fo = ("jal" : Str) from ej), if_neg (show ¬ fo = ("high" : Str) from eg)] at q1
        have hin : inV (.int (x / 67108864)) [.int 14, .int 23, .int 24, .int 25, .int 26, .int 27] = decide (x / 67108864 = 14 ∨ (23 ≤ x / 67108864 ∧ x / 67108864 ≤ 27)) := by
          have e := inV_ints (x / 67108864) [14, 23, 24, 25, 26, 27]
          refine e.trans (decide_eq_decide.mpr ?_)
          simp only [List.mem_cons, List.not_mem_nil, or_false]
          omega
        refine ⟨pl, _, rfl, .inl (.of h1), rfl, rfl, ?_⟩
        rw [hin]
        (with_reducible refine w_bl ?_)
        refine w_ndec (fun e1 => ?_) (fun e1 => ?_)
        · rw [if_neg e1] at q1
          (with_reducible refine w_ret ?_)
          (with_reducible refine w_c ?_)
          exact q1
        · rw [if_pos e1] at q1
          (with_reducible refine w_next ?_)
          (with_reducible refine w_ret ?_)
          (with_reducible refine w_op ?_)
          (with_reducible refine w_op ?_)
          (with_reducible refine w_op ?_)
          ((with_reducible refine' w_var ?hv ?_); (case hv => exact rfl))
          (with_reducible refine w_c ?_)
          ((with_reducible refine w_I ?hc ?_); (case hc => walk_at "side"))
          (with_reducible refine w_c ?_)
          ((with_reducible refine w_I ?hc ?_); (case hc => walk_at "side"))
          (with_reducible refine w_op ?_)
          (with_reducible refine w_cb ?_)
          (with_reducible refine w_cons ?_)
          (with_reducible refine w_op ?_)
          ((with_reducible refine' w_var ?hv ?_); (case hv => exact rfl))
          (with_reducible refine w_op ?_)
          ((with_reducible refine' w_var ?hv ?_); (case hv => exact rfl))
          (with_reducible refine w_c ?_)
          ((with_reducible refine w_I ?hc ?_); (case hc => walk_at "side"))
          (with_reducible refine w_I0 ?_)
          (with_reducible refine w_nil ?_)
          (with_reducible refine w_int1 ?_)
          (with_reducible refine w_c ?_)
          ((with_reducible refine w_I ?hc ?_); (case hc => walk_at "side"))
          (with_reducible refine w_I0 ?_)
          exact q1
theorem ok_law_places (b_len : mg "len" = none) (Z : St1 K mg "_law_places" s_law_places ["parts"]) : Cd P w K mg base 1 "_law_places" spPlaces := by
  refine Z.cd sc_law_places (fun vs H Q E h => by obtain ⟨p, us, ps, rfl, _⟩ := h; rfl) (fun f cdv A outer s H vs Q E hr h => ?_)
  obtain ⟨p, us, ps, rfl, hp, ha, hok, hl, q⟩ := h
  refine ⟨_, (pss_cons (ps_set (i := 1) sc_law_places.nd rfl (.inl rfl) (pe_lst pa_nil))
      (pss_cons (ps_set (i := 2) sc_law_places.nd rfl (.inl rfl) pe_int)
      (pss_cons (ps_for PassesOwn.never rfl (pi_list (pv 0)) (pg_name (i := 3) sc_law_places.nd rfl (.inl rfl))
      (pss_cons (ps_expr (pe_bm PySem.F.plainAttrs_list PySem.F.slot_list_append PySem.F.type_list_append mt_append (pv 1) (pa_cons (pv 2) pa_nil)))
      (pss_cons (ps_set (i := 2) sc_law_places.nd rfl (.inl rfl) (pe_op op_add (pv 2) (pe_op op_mul pe_int (pe_callB call_lenQ (by rfl) b_len PySem.boot_len (pa_cons (pe_ix ix_tup (pv 3) pe_int (fun _ _ => rfl)) pa_nil)))))
      (pss_one (ps_while PassesOwn.never (pt_cmpR op_ne (pe_op op_mod (pv 2) pe_int) pe_int (nomark _)) (pss_one (ps_set (i := 2) sc_law_places.nd rfl (.inl rfl) (pe_op op_add (pv 2) pe_int))))))))
      (pss_one (ps_ret (pv 1)))))), ?_⟩
  (with_reducible refine w_seq ?_)
  (with_reducible refine w_asg ?_)
  (with_reducible refine w_lst ?_)
  (with_reducible refine w_nil ?_)
  refine w_kLst (Nat.zero_le _) fun r H1 nr s1 hr1 => ?_
  (with_reducible refine w_name ?_)
  (with_reducible refine w_seq ?_)
  (with_reducible refine w_asg ?_)
  (with_reducible refine w_c ?_)
  (with_reducible refine w_name ?_)
  (with_reducible refine w_seq ?_)
  (with_reducible refine w_for ?_)
  (with_reducible refine w_iL ?_)
  ((with_reducible refine' w_var ?hv ?_); (case hv => exact rfl))
  refine w_forL us (fun i σ H' => Same H H' ∧ H' r = some (.lst (((adrs ps).take i).map V.int)) ∧ ∃ v3 : Option V, σ = [some (.ref p), some (.ref r), some (.int (adN ps i)), v3]) (.of (s1 _ _ hp)) ⟨s1, hr1, _, rfl⟩ (fun i σ H' _ h => .of (h.1 _ _ hp)) (fun i x σ H2 hx h => ?_) (fun σ H2 h => ?_)
  · obtain ⟨s2, hr2, v3, rfl⟩ := h
    obtain ⟨g, hg, pa⟩ := ha.at hx
    obtain ⟨t, tw, tx, tn, xv, nv, rfl, ht, htw, _⟩ := pa.tk (TK.same s2)
    have il : i < ps.length := (List.getElem?_eq_some_iff.mp hg).1
    obtain ⟨a0, a1, a2⟩ := adN_le hok i
    have g2 := (hok g (List.mem_of_getElem? hg)).w2
    have e : adN ps (i + 1) = (adN ps i + 4 * (g.ws.length : Int) + 15) / 16 * 16 := by show (match ps[i]? with | some p => _ | none => adN ps i) = _; rw [hg]
    (with_reducible refine w_name ?_)
    (with_reducible refine w_seq ?_)
    (with_reducible refine w_drop ?_)
    (with_reducible refine w_bm ?_)
    ((with_reducible refine' w_var ?hv ?_); (case hv => exact rfl))
    ((with_reducible refine' w_tyL ?hh ?_); (case hh => assumption))
    (with_reducible refine w_cons ?_)
    ((with_reducible refine' w_var ?hv ?_); (case hv => exact rfl))
    (with_reducible refine w_nil ?_)
    refine w_append hr2 (by rw [List.length_map, List.length_take, adrs_len]; exact small1000 (by omega)) fun H3 hr3 b3 => ?_
    have s3 : Same H H3 := fun b o hb => b3 b o (fun z => by rw [z, nr] at hb; cases hb) (s2 _ _ hb)
    have ht3 := b3 t _ (ne_of ht hr2 (by intro z; cases z)) ht
    have htw3 := b3 tw _ (ne_of htw hr2 (by intro z; cases z)) htw
    (with_reducible refine w_seq ?_)
    (with_reducible refine w_asg ?_)
    (with_reducible refine w_op ?_)
    ((with_reducible refine' w_var ?hv ?_); (case hv => exact rfl))
    (with_reducible refine w_op ?_)
    (with_reducible refine w_c ?_)
    (with_reducible refine w_cb ?_)
    (with_reducible refine w_cons ?_)
    (with_reducible refine w_op ?_)
    ((with_reducible refine' w_var ?hv ?_); (case hv => exact rfl))
    (with_reducible refine w_c ?_)
    ((with_reducible refine' w_ixT ?hh ?ha ?_); (case hh => assumption); (case ha => exact rfl))
    (with_reducible refine w_nil ?_)
    refine w_lenTs (.of htw3) ?_
    rw [List.length_map]
    ((with_reducible refine w_I ?hc ?_); (case hc => walk_at "side"))
    (with_reducible refine w_I0 ?_)
    (with_reducible refine w_name ?_)
    have hr3' : H3 r = some (.lst (((adrs ps).take (i + 1)).map V.int)) := by rw [hr3, take_more (adrs_at il), List.map_append]; rfl
    let Pv : Nat → L2.St → Hp → Prop := fun m σ H' => H' = H3 ∧ ∃ b : Int, b % 4 = 0 ∧ adN ps i + 4 * (g.ws.length : Int) ≤ b ∧ b ≤ (adN ps i + 4 * (g.ws.length : Int) + 15) / 16 * 16 ∧ (m : Int) = (adN ps i + 4 * (g.ws.length : Int) + 15) / 16 * 16 - b ∧ σ = [some (.ref p), some (.ref r), some (.int b), some (.ref t)]
    refine ⟨Pv, ⟨((adN ps i + 4 * (g.ws.length : Int) + 15) / 16 * 16 - (adN ps i + 4 * (g.ws.length : Int))).toNat, rfl, adN ps i + 4 * (g.ws.length : Int), by omega, by omega, by omega, by omega, rfl⟩, fun m σ H' h => ?_⟩
    obtain ⟨rfl, b, b1, b2, b3', b4, rfl⟩ := h
    (with_reducible refine w_test ?_)
    (with_reducible refine w_op ?_)
    (with_reducible refine w_op ?_)
    ((with_reducible refine' w_var ?hv ?_); (case hv => exact rfl))
    (with_reducible refine w_c ?_)
    ((with_reducible refine w_I ?hc ?_); (case hc => walk_at "side"))
    (with_reducible refine w_c ?_)
    (with_reducible refine w_neI ?_)
    (with_reducible refine w_bl ?_)
    refine w_ndec (fun e1 => ?_) (fun e1 => ?_)
    · refine ⟨fun σ' H' => ∃ m', m' < m ∧ Pv m' σ' H', fun _ _ h => h, ?_⟩
      (with_reducible refine w_asg ?_)
      (with_reducible refine w_op ?_)
      ((with_reducible refine' w_var ?hv ?_); (case hv => exact rfl))
      (with_reducible refine w_c ?_)
      (with_reducible refine w_I0 ?_)
      (with_reducible refine w_name ?_)
      exact ⟨m - 4, by omega, rfl, b + 4, by omega, by omega, by omega, by omega, rfl⟩
    · exact ⟨s3, hr3', _, by rw [e, show (adN ps i + 4 * (g.ws.length : Int) + 15) / 16 * 16 = b by omega]⟩
  · obtain ⟨s2, hr2, v3, rfl⟩ := h
    (with_reducible refine w_ret ?_)
    ((with_reducible refine' w_var ?hv ?_); (case hv => exact rfl))
    rw [ha.1, ← adrs_len, List.take_length] at hr2
    exact q r H2 nr s2 hr2
end
end K08


open PySem.W
namespace K08
open TL RZ
theorem sc_law_part : FnScope ["draw", "k", "names", "words", "needs", "exports", "j", "name", "form", "row", "kind"] ["draw", "k", "names"] (defScope s_law_part) := ⟨rfl, rfl, rfl, by decide +kernel, rfl, by decide +kernel, by decide +kernel⟩
local macro_rules | `(tactic| walk_at "w1") => `(tactic| first
  | (with_reducible refine w_isS ?_))
def namesL : List Str := ["start", "f0", "f1", "data", "g_2", "tab"]
def pool : List Str := ["nobody", "start", "f0", "f1", "data", "g_2", "tab", "Bad"]
theorem pool_ok : ∀ z ∈ pool, PyData.strOk z = true ∧ z.length ≤ 10 ∧ (nameOk z = false ↔ z = ("Bad" : Str)) := by decide +kernel
theorem names_pool : ∀ z ∈ namesL, z ∈ pool := by decide +kernel
structure PartSm (p : Part) : Prop where
  sh : ∃ (b : List Int) (z : Nat), p.ws = b ++ List.replicate z 0 ∧ b.length ≤ 5 ∧ z ≤ 16400
  nm : PyData.strOk p.nm = true ∧ p.nm.length ≤ 20
  bad : ∀ e ∈ p.xs, e.2 ∈ pool
  nd : ∀ e ∈ p.ns, e.2.2 ∈ pool
structure LpA (i : Nat) (bws : List Int) (ns : List Nd) : Prop where
  l : bws.length = i
  w : ∀ w ∈ bws, (0 ≤ w ∧ w < 4294967296) ∧ InsW w
  n : ∀ e ∈ ns, ∃ j : Nat, j < i ∧ e.1 = 4 * (j : Int) ∧ isForm e.2.1 ∧ e.2.2 ∈ pool
  nd : (ns.map (·.1)).Nodup
  nl : ns.length ≤ i
structure LpS (H0 H : Hp) (d c pw pn px : Addr) (bws : List Int) (ns : List Nd) (xs : List (Int × Str)) : Prop where
  dr : DrawC H d c
  fr : But d H0 H
  hw : H pw = some (.lst (bws.map V.int))
  hn : ∃ nv, H pn = some (.lst nv) ∧ Al (NdAt H) nv ns
  hx : ∃ xv, H px = some (.lst xv) ∧ Al (SymAt H) xv xs
  new : H0 pw = none ∧ H0 pn = none ∧ H0 px = none
  ne : pw ≠ d ∧ pn ≠ d ∧ px ≠ d ∧ pw ≠ pn ∧ pw ≠ px ∧ pn ≠ px ∧ pw ≠ c ∧ pn ≠ c ∧ px ≠ c
section
variable {H0 H H' : Hp} {d c pw pn px : Addr} {bws : List Int} {ns : List Nd} {xs : List (Int × Str)}
theorem LpS.draw (S : LpS H0 H d c pw pn px bws ns xs) (hd : DrawC H' d c) (b : But d H H') : LpS H0 H' d c pw pn px bws ns xs := by
  obtain ⟨⟨xd, ed⟩, _⟩ := S.dr.hdl
  have tk := TK.lst b ed
  obtain ⟨nv, hn, an⟩ := S.hn
  obtain ⟨xv, hx, ax⟩ := S.hx
  exact ⟨hd, S.fr.trans b, b _ _ S.ne.1 S.hw, ⟨nv, b _ _ S.ne.2.1 hn, an.imp fun v g h => h.tk tk⟩, ⟨xv, b _ _ S.ne.2.2.1 hx, ax.imp fun v g h => h.tk tk⟩, S.new, S.ne⟩
theorem LpS.same (S : LpS H0 H d c pw pn px bws ns xs) (s : Same H H') : LpS H0 H' d c pw pn px bws ns xs := S.draw (S.dr.same s) (fun b o _ h => s b o h)
theorem LpS.word (S : LpS H0 H d c pw pn px bws ns xs) {w : Int} (h : H' pw = some (.lst (bws.map V.int ++ [.int w]))) (b : But pw H H') : LpS H0 H' d c pw pn px (bws ++ [w]) ns xs := by
  have tk := TK.lst b S.hw
  obtain ⟨nv, hn, an⟩ := S.hn
  obtain ⟨xv, hx, ax⟩ := S.hx
  refine ⟨S.dr.keep (fun o e => b _ _ S.ne.1.symm e) (fun o e => b _ _ S.ne.2.2.2.2.2.2.1.symm e), fun x o hx h => b _ _ (fun z => ?_) (S.fr x o hx h), by rw [h, List.map_append]; rfl, ⟨nv, b _ _ S.ne.2.2.2.1.symm hn, an.imp fun v g h => h.tk tk⟩, ⟨xv, b _ _ S.ne.2.2.2.2.1.symm hx, ax.imp fun v g h => h.tk tk⟩, S.new, S.ne⟩
  rw [z, S.new.1] at h
  cases h
theorem LpS.need (S : LpS H0 H d c pw pn px bws ns xs) {e : Nd} {v : V} {nv : List V} (hn0 : H pn = some (.lst nv)) (hv : NdAt H v e) (h : H' pn = some (.lst (nv ++ [v]))) (b : But pn H H') : LpS H0 H' d c pw pn px bws (ns ++ [e]) xs := by
  obtain ⟨nv', hn, an⟩ := S.hn
  rw [hn0] at hn
  cases hn
  have tk := TK.lst b hn0
  obtain ⟨xv, hx, ax⟩ := S.hx
  refine ⟨S.dr.keep (fun o e => b _ _ S.ne.2.1.symm e) (fun o e => b _ _ S.ne.2.2.2.2.2.2.2.1.symm e), fun x o hx h => b _ _ (fun z => ?_) (S.fr x o hx h), b _ _ S.ne.2.2.2.1 S.hw, ⟨_, h, Al.snoc (an.imp fun v g h => h.tk tk) (hv.tk tk)⟩, ⟨xv, b _ _ S.ne.2.2.2.2.2.1.symm hx, ax.imp fun v g h => h.tk tk⟩, S.new, S.ne⟩
  rw [z, S.new.2.1] at h
  cases h
theorem LpS.exp (S : LpS H0 H d c pw pn px bws ns xs) {e : Int × Str} {v : V} {xv : List V} (hx0 : H px = some (.lst xv)) (hv : SymAt H v e) (h : H' px = some (.lst (xv ++ [v]))) (b : But px H H') : LpS H0 H' d c pw pn px bws ns (xs ++ [e]) := by
  obtain ⟨xv', hx, ax⟩ := S.hx
  rw [hx0] at hx
  cases hx
  have tk := TK.lst b hx0
  obtain ⟨nv, hn, an⟩ := S.hn
  refine ⟨S.dr.keep (fun o e => b _ _ S.ne.2.2.1.symm e) (fun o e => b _ _ S.ne.2.2.2.2.2.2.2.2.symm e), fun x o hx h => b _ _ (fun z => ?_) (S.fr x o hx h), b _ _ S.ne.2.2.2.2.1 S.hw, ⟨nv, b _ _ S.ne.2.2.2.2.2.1 hn, an.imp fun v g h => h.tk tk⟩, ⟨_, h, Al.snoc (ax.imp fun v g h => h.tk tk) (hv.tk tk)⟩, S.new, S.ne⟩
  rw [z, S.new.2.2] at h
  cases h
end
def RowAt (H : Hp) (v : V) : Prop := ∃ (t : Addr) (n : Nat) (op fm : Str) (xs : List Int), v = .ref t ∧ H t = some (.tup (insV op xs)) ∧ Ins n op fm xs
theorem RowAt.tk {H H' : Hp} {v : V} (h : RowAt H v) (s : TK H H') : RowAt H' v := by
  obtain ⟨t, n, op, fm, xs, e, a, i⟩ := h
  exact ⟨t, n, op, fm, xs, e, s _ _ a, i⟩
theorem pickL (l : List Str) {k : Int} (h0 : 0 ≤ k) (h1 : k < l.length) : ∃ v, v ∈ l ∧ atI (l.map V.str) k = some (.str v) := by
  obtain ⟨n, rfl⟩ := Int.eq_ofNat_of_zero_le h0
  have hn : n < l.length := by omega
  exact ⟨l[n], List.getElem_mem hn, atI_nat (by rw [List.getElem?_map, List.getElem?_eq_getElem hn]; rfl)⟩
def formL : List Str := ["word", "jal", "high", "low"]
theorem form_is : ∀ z ∈ formL, isForm z := by
  intro z h
  simp only [formL, List.mem_cons, List.not_mem_nil, or_false] at h
  exact h
theorem LpA.word {i : Nat} {bws : List Int} {ns : List Nd} (h : LpA i bws ns) {w : Int} (hw : (0 ≤ w ∧ w < 4294967296) ∧ InsW w) : LpA (i + 1) (bws ++ [w]) ns := by
  refine ⟨by rw [List.length_append, h.l]; rfl, fun x hx => ?_, fun e he => ?_, h.nd, Nat.le_succ_of_le h.nl⟩
  · rcases List.mem_append.mp hx with z | z
    · exact h.w x z
    · rw [List.mem_singleton.mp z]; exact hw
  · obtain ⟨j, a, b⟩ := h.n e he
    exact ⟨j, Nat.lt_succ_of_lt a, b⟩
theorem LpA.need {i : Nat} {bws : List Int} {ns : List Nd} {w : Int} (h0 : LpA i bws ns) (hw : (0 ≤ w ∧ w < 4294967296) ∧ InsW w) {f z : Str} (hf : isForm f) (hz : z ∈ pool) : LpA (i + 1) (bws ++ [w]) (ns ++ [(4 * (i : Int), f, z)]) := by
  have h := h0.word hw
  refine ⟨h.l, h.w, fun e he => ?_, ?_, by rw [List.length_append]; exact Nat.succ_le_succ h0.nl⟩
  · rcases List.mem_append.mp he with y | y
    · exact h.n e y
    · rw [List.mem_singleton.mp y]
      exact ⟨i, Nat.lt_succ_self _, rfl, hf, hz⟩
  · rw [List.map_append]
    refine List.nodup_append.mpr ⟨h0.nd, by simp, fun a ha b hb e => ?_⟩
    have hb' : b = 4 * (i : Int) := by simpa using hb
    obtain ⟨x, hx, rfl⟩ := List.mem_map.mp ha
    obtain ⟨j, hj, ej, _⟩ := h0.n x hx
    omega
def spPart : Sp := fun vs H Q _ => ∃ (d c nm : Addr) (k : Int), vs = [.ref d, .int k, .ref nm] ∧ DrawC H d c ∧ nm ≠ d ∧ 0 ≤ k ∧ k ≤ 10 ∧ H nm = some (.lst (namesL.map V.str)) ∧ ∀ (v : V) (p : Part) H', DrawC H' d c → But d H H' → PartAt H' v p → PartOk p → PartSm p → Q v H'
theorem w_rep {l : Addr} {k : Int} {xs ys : List V} {H : Hp} {Q : VK} (h : H l = some (.lst xs)) (hk : -(2 ^ 63) ≤ k ∧ k < 2 ^ 63) (hl : xs.length * k.toNat ≤ sizeLine) (e : (List.replicate k.toNat xs).flatten = ys) (q : ∀ p H', H p = none → Same H H' → H' p = some (.lst ys) → Q (.ref p) H') : rRep (.ref l) (.int k) H Q :=
  ⟨l, k, xs, rfl, rfl, h, hk.1, hk.2, hl, fun p np => q p _ np (Same.new np) (by rw [e]; exact upd_same)⟩
theorem rep_one (n : Nat) (v : V) : (List.replicate n [v]).flatten = List.replicate n v := by
  induction n with
  | zero => rfl
  | succ n ih => rw [List.replicate_succ, List.flatten_cons, ih]; rfl
theorem enc_fits {n : Nat} {op fm : Str} {xs : List Int} (h : Ins n op fm xs) : (0 ≤ encW n fm xs ∧ encW n fm xs < 4294967296) ∧ InsW (encW n fm xs) := by
  obtain ⟨_, a, b⟩ := h.fits.enc (n := n)
  have := h.n38
  exact ⟨⟨b, by omega⟩, n, op, fm, xs, h, rfl⟩
section
variable {P : Program} {w : World} {K : PySem.W.Frag} {mg : Str → Option Value} {base : Heap}
theorem ok_law_part (b_range : mg "range" = none) (b_len : mg "len" = none) (b_str : mg "str" = none) (b_tuple : mg "tuple" = none) (c_law_take : Cd P w K mg base 1 "_law_take" spTake) (c_law_word : Cd P w K mg base 2 "_law_word" (spWordS K)) (Z : St1 K mg "_law_part" s_law_part ["draw", "k", "names"]) : Cd P w K mg base 3 "_law_part" spPart := by
  refine Z.cd sc_law_part (fun vs H Q E h => by obtain ⟨d, c, nm, k, rfl, _⟩ := h; rfl) (fun f cdv A outer s H vs Q E hr h => ?_)
  obtain ⟨d, c, nm, k, rfl, hd, nnd, k0, k1, hnm, q⟩ := h
  refine ⟨_, (Evl.pss_cut (ps_set (i := 3) sc_law_part.nd rfl (.inl rfl) (pe_lst pa_nil))
      (Evl.pss_cut (ps_set (i := 4) sc_law_part.nd rfl (.inl rfl) (pe_lst pa_nil))
      (Evl.pss_cut (ps_set (i := 5) sc_law_part.nd rfl (.inl rfl) (pe_lst pa_nil))
      (Evl.pss_cut (ps_for PassesOwn.never rfl (pi_range1 (by rfl) b_range (pa_cons (pe_op op_add pe_int (pe_cd c_law_take hr (by first | decide | omega) (by rfl) (pa_cons (pv 0) (pa_cons pe_int pa_nil)))) pa_nil)) (pg_name (i := 6) sc_law_part.nd rfl (.inl rfl))
      (Evl.pss_cut (ps_set (i := 7) sc_law_part.nd rfl (.inl rfl) (pe_ifExp (pt_cmpR op_gt (pe_cd c_law_take hr (by first | decide | omega) (by rfl) (pa_cons (pv 0) (pa_cons pe_int pa_nil))) pe_int (nomark _)) (pe_ix ix_list (pv 2) (pe_cd c_law_take hr (by first | decide | omega) (by rfl) (pa_cons (pv 0) (pa_cons (pe_callB call_lenQ (by rfl) b_len PySem.boot_len (pa_cons (pv 2) pa_nil)) pa_nil))) (fun _ _ => rfl)) pe_str))
      (Evl.pss_cut (ps_set (i := 8) sc_law_part.nd rfl (.inl rfl) (pe_ix ix_list (pe_lst (pa_cons pe_str (pa_cons pe_str (pa_cons pe_str (pa_cons pe_str pa_nil))))) (pe_cd c_law_take hr (by first | decide | omega) (by rfl) (pa_cons (pv 0) (pa_cons pe_int pa_nil))) (fun _ _ => rfl)))
      (Evl.pss_cut (ps_set (i := 9) sc_law_part.nd rfl (.inl rfl) (pe_tup (pa_cons pe_str (pa_cons pe_int (pa_cons pe_int (pa_cons pe_int pa_nil))))))
      (Evl.pss_cut (ps_if (pt_cmpR op_eq (pv 8) pe_str (nomark _)) (pss_one (ps_set (i := 9) sc_law_part.nd rfl (.inl rfl) (pe_tup (pa_cons pe_str (pa_cons (pe_cd c_law_take hr (by first | decide | omega) (by rfl) (pa_cons (pv 0) (pa_cons pe_int pa_nil))) (pa_cons pe_int pa_nil)))))) pss_nil)
      (Evl.pss_cut (ps_if (pt_cmpR op_eq (pv 8) pe_str (nomark _)) (pss_one (ps_set (i := 9) sc_law_part.nd rfl (.inl rfl) (pe_tup (pa_cons pe_str (pa_cons (pe_cd c_law_take hr (by first | decide | omega) (by rfl) (pa_cons (pv 0) (pa_cons pe_int pa_nil))) (pa_cons pe_int pa_nil)))))) pss_nil)
      (Evl.pss_cut (ps_if (pt_cmpR op_eq (pv 8) pe_str (nomark _)) (pss_one (ps_set (i := 9) sc_law_part.nd rfl (.inl rfl) (pe_ix ix_list (pe_lst (pa_cons (pe_tup (pa_cons pe_str (pa_cons pe_int (pa_cons pe_int (pa_cons pe_int pa_nil))))) (pa_cons (pe_tup (pa_cons pe_str (pa_cons pe_int (pa_cons pe_int (pa_cons pe_int pa_nil))))) (pa_cons (pe_tup (pa_cons pe_str (pa_cons pe_int (pa_cons pe_int (pa_cons (pe_un un_neg pe_int) pa_nil))))) pa_nil)))) (pe_cd c_law_take hr (by first | decide | omega) (by rfl) (pa_cons (pv 0) (pa_cons pe_int pa_nil))) (fun _ _ => rfl)))) pss_nil)
      (Evl.pss_cut (ps_if (pt_cmpR op_eq (pe_cd c_law_take hr (by first | decide | omega) (by rfl) (pa_cons (pv 0) (pa_cons pe_int pa_nil))) pe_int (nomark _)) (pss_one (ps_set (i := 9) sc_law_part.nd rfl (.inl rfl) (pe_tup (pa_cons pe_str (pa_cons pe_int (pa_cons pe_int (pa_cons pe_int pa_nil))))))) pss_nil)
      (Evl.pss_cut (ps_expr (pe_bm PySem.F.plainAttrs_list PySem.F.slot_list_append PySem.F.type_list_append mt_append (pv 3) (pa_cons (pe_cd c_law_word hr (by first | decide | omega) (by rfl) (pa_cons (pv 9) pa_nil)) pa_nil)))
      (pss_one (ps_if (pt_cmpR op_gt (pe_cd c_law_take hr (by first | decide | omega) (by rfl) (pa_cons (pv 0) (pa_cons pe_int pa_nil))) pe_int (nomark _)) (pss_one (ps_expr (pe_bm PySem.F.plainAttrs_list PySem.F.slot_list_append PySem.F.type_list_append mt_append (pv 4) (pa_cons (pe_tup (pa_cons (pe_op op_mul pe_int (pv 6)) (pa_cons (pv 8) (pa_cons (pv 7) pa_nil)))) pa_nil)))) pss_nil)))))))))))
      (Evl.pss_cut (ps_for PassesOwn.never rfl (pi_range1 (by rfl) b_range (pa_cons (pe_cd c_law_take hr (by first | decide | omega) (by rfl) (pa_cons (pv 0) (pa_cons pe_int pa_nil))) pa_nil)) (pg_name (i := 6) sc_law_part.nd rfl (.inl rfl))
      (pss_one (ps_expr (pe_bm PySem.F.plainAttrs_list PySem.F.slot_list_append PySem.F.type_list_append mt_append (pv 5) (pa_cons (pe_tup (pa_cons (pe_op op_mul pe_int (pe_cd c_law_take hr (by first | decide | omega) (by rfl) (pa_cons (pv 0) (pa_cons (pe_callB call_lenQ (by rfl) b_len PySem.boot_len (pa_cons (pv 3) pa_nil)) pa_nil)))) (pa_cons (pe_ix ix_list (pv 2) (pe_op op_mod (pe_op op_add (pe_op op_mul pe_int (pv 1)) (pv 6)) (pe_callB call_lenQ (by rfl) b_len PySem.boot_len (pa_cons (pv 2) pa_nil))) (fun _ _ => rfl)) pa_nil))) pa_nil)))))
      (Evl.pss_cut (ps_if (pt_cmpR op_eq (pe_cd c_law_take hr (by first | decide | omega) (by rfl) (pa_cons (pv 0) (pa_cons pe_int pa_nil))) pe_int (nomark _)) (pss_one (ps_expr (pe_bm PySem.F.plainAttrs_list PySem.F.slot_list_append PySem.F.type_list_append mt_append (pv 5) (pa_cons (pe_tup (pa_cons pe_int (pa_cons (pe_ix ix_list (pe_lst (pa_cons pe_str (pa_cons pe_str (pa_cons pe_str pa_nil)))) (pe_cd c_law_take hr (by first | decide | omega) (by rfl) (pa_cons (pv 0) (pa_cons pe_int pa_nil))) (fun _ _ => rfl)) pa_nil))) pa_nil)))) pss_nil)
      (Evl.pss_cut (ps_if (pt_cmpR op_eq (pe_cd c_law_take hr (by first | decide | omega) (by rfl) (pa_cons (pv 0) (pa_cons pe_int pa_nil))) pe_int (nomark _)) (pss_one (ps_set (i := 3) sc_law_part.nd rfl (.inl rfl) (pe_op op_cat (pv 3) (pe_op op_rep (pe_lst (pa_cons pe_int pa_nil)) pe_int)))) pss_nil)
      (Evl.pss_cut (ps_set (i := 10) sc_law_part.nd rfl (.inl rfl) (pe_cd c_law_take hr (by first | decide | omega) (by rfl) (pa_cons (pv 0) (pa_cons pe_int pa_nil))))
      (pss_one (ps_ret (pe_tup (pa_cons (pe_op op_addSQ pe_str (pe_callTy call_strQ (by rfl) b_str (by decide +kernel) (pa_cons (pv 1) pa_nil))) (pa_cons (pe_callTy call_tupQ (by rfl) b_tuple (by decide +kernel) (pa_cons (pv 3) pa_nil)) (pa_cons (pe_cmpR op_eq (pv 10) pe_int (nomark _)) (pa_cons (pe_cmpR op_eq (pv 10) pe_int (nomark _)) (pa_cons (pe_callTy call_tupQ (by rfl) b_tuple (by decide +kernel) (pa_cons (pv 5) pa_nil)) (pa_cons (pe_callTy call_tupQ (by rfl) b_tuple (by decide +kernel) (pa_cons (pv 4) pa_nil)) pa_nil))))))))))))))))), ?_⟩
  refine Evl.q_cut (M := fun σ' H' => ∃ pw : Addr, H pw = none ∧ Same H H' ∧ H' pw = some (.lst []) ∧ σ' = [some (.ref d), some (.int k), some (.ref nm), some (.ref pw), none, none, none, none, none, none, none]) ?_ ?_
  · (with_reducible refine w_asg ?_)
    (with_reducible refine w_lst ?_)
    (with_reducible refine w_nil ?_)
    refine w_kLst (Nat.zero_le _) fun pw H1 nw s1 hw => ?_
    (with_reducible refine w_name ?_)
    exact ⟨pw, nw, s1, hw, rfl⟩
  rintro σ' H1 ⟨pw, nw, s1, hw, rfl⟩
  refine Evl.q_cut (M := fun σ' H' => ∃ pn : Addr, H1 pn = none ∧ Same H1 H' ∧ H' pn = some (.lst []) ∧ σ' = [some (.ref d), some (.int k), some (.ref nm), some (.ref pw), some (.ref pn), none, none, none, none, none, none]) ?_ ?_
  · (with_reducible refine w_asg ?_)
    (with_reducible refine w_lst ?_)
    (with_reducible refine w_nil ?_)
    refine w_kLst (Nat.zero_le _) fun pn H2 nn s2 hn => ?_
    (with_reducible refine w_name ?_)
    exact ⟨pn, nn, s2, hn, rfl⟩
  rintro σ' H2 ⟨pn, nn, s2, hn, rfl⟩
  refine Evl.q_cut (M := fun σ' H' => ∃ px : Addr, LpS H H' d c pw pn px [] [] [] ∧ σ' = [some (.ref d), some (.int k), some (.ref nm), some (.ref pw), some (.ref pn), some (.ref px), none, none, none, none, none]) ?_ ?_
  · (with_reducible refine w_asg ?_)
    (with_reducible refine w_lst ?_)
    (with_reducible refine w_nil ?_)
    refine w_kLst (Nat.zero_le _) fun px H3 nx s3 hx => ?_
    (with_reducible refine w_name ?_)
    have s03 := s1.trans (s2.trans s3)
    have d1 := hd.same s1
    have d2 := d1.same s2
    refine ⟨px, ⟨d2.same s3, fun b o _ h => s03 _ _ h, s3 _ _ (s2 _ _ hw), ⟨[], s3 _ _ hn, Al.nil⟩, ⟨[], hx, Al.nil⟩, ⟨nw, fresh s1 nn, fresh (s1.trans s2) nx⟩, ⟨hd.ne nw, d1.ne nn, d2.ne nx, fun z => ?_, fun z => ?_, fun z => ?_, hd.nec nw, d1.nec nn, d2.nec nx⟩⟩, rfl⟩
    · rw [← z, hw] at nn; cases nn
    · rw [← z, s2 _ _ hw] at nx; cases nx
    · rw [← z, hn] at nx; cases nx
  rintro σ' H3 ⟨px, S3, rfl⟩
  have hnmS : ∀ {H' bws ns xs}, LpS H H' d c pw pn px bws ns xs → H' nm = some (.lst (namesL.map V.str)) := fun S => S.fr _ _ nnd hnm
  refine Evl.q_cut (M := fun σ' H' => ∃ (n : Nat) (bws : List Int) (ns : List Nd) (v6 v7 v8 v9 : Option V), 1 ≤ n ∧ n ≤ 5 ∧ LpS H H' d c pw pn px bws ns [] ∧ LpA n bws ns ∧ σ' = [some (.ref d), some (.int k), some (.ref nm), some (.ref pw), some (.ref pn), some (.ref px), v6, v7, v8, v9, none]) ?_ ?_
  · (with_reducible refine w_for ?_)
    (with_reducible refine w_rng1 ?_)
    (with_reducible refine w_cons ?_)
    (with_reducible refine w_op ?_)
    (with_reducible refine w_c ?_)
    (with_reducible refine w_call ?_)
    (with_reducible refine w_cons ?_)
    ((with_reducible refine' w_var ?hv ?_); (case hv => exact rfl))
    (with_reducible refine w_cons ?_)
    (with_reducible refine w_c ?_)
    (with_reducible refine w_nil ?_)
    refine w_take S3.dr (by decide) (by decide) fun n0 H4 n00 n01 hd4 b4 => ?_
    have S4 := S3.draw hd4 b4
    (with_reducible refine w_I0 ?_)
    (with_reducible refine w_nil ?_)
    refine w_forR (1 + n0).toNat (fun i σ H' => ∃ (bws : List Int) (ns : List Nd) (v6 v7 v8 v9 : Option V), LpS H H' d c pw pn px bws ns [] ∧ LpA i bws ns ∧ σ = [some (.ref d), some (.int k), some (.ref nm), some (.ref pw), some (.ref pn), some (.ref px), v6, v7, v8, v9, none]) rfl (by omega) ⟨[], [], _, _, _, _, S4, ⟨rfl, fun w h => (by cases h), fun e h => (by cases h), List.nodup_nil, Nat.le_refl _⟩, rfl⟩ (fun i σ H5 hi h => ?_) (fun σ H5 h => ?_)
    · obtain ⟨bws, ns, v6, v7, v8, v9, S5, A5, rfl⟩ := h
      -- the name
      refine Evl.q_cut (M := fun σ' H' => ∃ z ∈ pool, LpS H H' d c pw pn px bws ns [] ∧ ∃ v8 v9 : Option V, σ' = [some (.ref d), some (.int k), some (.ref nm), some (.ref pw), some (.ref pn), some (.ref px), some (.int (i : Int)), some (.str z), v8, v9, none]) ?_ ?_
      · (with_reducible refine w_asg ?_)
        (with_reducible refine w_if ?_)
        (with_reducible refine w_test ?_)
        (with_reducible refine w_op ?_)
        (with_reducible refine w_call ?_)
        (with_reducible refine w_cons ?_)
        ((with_reducible refine' w_var ?hv ?_); (case hv => exact rfl))
        (with_reducible refine w_cons ?_)
        (with_reducible refine w_c ?_)
        (with_reducible refine w_nil ?_)
        refine w_take S5.dr (by decide) (by decide) fun r1 H6 r10 r11 hd6 b6 => ?_
        have S6 := S5.draw hd6 b6
        (with_reducible refine w_c ?_)
        (with_reducible refine w_I0 ?_)
        (with_reducible refine w_bl ?_)
        refine w_dec (fun e1 => ?_) (fun e1 => ?_)
        · have h6 := hnmS S6
          (with_reducible refine w_op ?_)
          ((with_reducible refine' w_var ?hv ?_); (case hv => exact rfl))
          (with_reducible refine w_call ?_)
          (with_reducible refine w_cons ?_)
          ((with_reducible refine' w_var ?hv ?_); (case hv => exact rfl))
          (with_reducible refine w_cons ?_)
          (with_reducible refine w_cb ?_)
          (with_reducible refine w_cons ?_)
          ((with_reducible refine' w_var ?hv ?_); (case hv => exact rfl))
          (with_reducible refine w_nil ?_)
          ((with_reducible refine' w_lenL ?hh ?_); (case hh => assumption))
          (with_reducible refine w_nil ?_)
          refine w_take S6.dr (by show (0 : Int) < ((namesL.map V.str).length : Int); decide) (by show ((namesL.map V.str).length : Int) ≤ 4294967296; decide) fun r2 H7 r20 r21 hd7 b7 => ?_
          have S7 := S6.draw hd7 b7
          skip
          obtain ⟨z, hz, ea⟩ := pickL namesL r20 (show r2 < ((namesL.length : Nat) : Int) from r21)
          refine w_ixL (hnmS S7) ea ?_
          (with_reducible refine w_name ?_)
          exact ⟨z, names_pool z hz, S7, _, _, rfl⟩
        · (with_reducible refine w_c ?_)
          (with_reducible refine w_name ?_)
          exact ⟨"nobody", by decide +kernel, S6, _, _, rfl⟩
      rintro σ' H6 ⟨z, hz, S6, v8', v9', rfl⟩
      refine Evl.q_cut (M := fun σ' H' => ∃ fo ∈ formL, LpS H H' d c pw pn px bws ns [] ∧ ∃ v9 : Option V, σ' = [some (.ref d), some (.int k), some (.ref nm), some (.ref pw), some (.ref pn), some (.ref px), some (.int (i : Int)), some (.str z), some (.str fo), v9, none]) ?_ ?_
      · (with_reducible refine w_asg ?_)
        (with_reducible refine w_op ?_)
        (with_reducible refine w_lst ?_)
        (with_reducible refine w_cons ?_)
        (with_reducible refine w_c ?_)
        (with_reducible refine w_cons ?_)
        (with_reducible refine w_c ?_)
        (with_reducible refine w_cons ?_)
        (with_reducible refine w_c ?_)
        (with_reducible refine w_cons ?_)
        (with_reducible refine w_c ?_)
        (with_reducible refine w_nil ?_)
        refine w_kLst (by show 4 ≤ sizeLine; decide) fun l7 H7 n7 s7 h7 => ?_
        have S7 := S6.same s7
        (with_reducible refine w_call ?_)
        (with_reducible refine w_cons ?_)
        ((with_reducible refine' w_var ?hv ?_); (case hv => exact rfl))
        (with_reducible refine w_cons ?_)
        (with_reducible refine w_c ?_)
        (with_reducible refine w_nil ?_)
        refine w_take S7.dr (by decide) (by decide) fun r2 H8 r20 r21 hd8 b8 => ?_
        have S8 := S7.draw hd8 b8
        have h8 : H8 l7 = some (.lst (formL.map V.str)) := b8 l7 _ (S6.dr.ne n7) h7
        skip
        obtain ⟨fo, hfo, ea⟩ := pickL formL r20 (show r2 < ((formL.length : Nat) : Int) from r21)
        refine w_ixL h8 ea ?_
        (with_reducible refine w_name ?_)
        exact ⟨fo, hfo, S8, _, rfl⟩
      rintro σ' H7 ⟨fo, hfo, S7, v9'', rfl⟩
      let M : L2.St → Hp → Prop := fun σ' H' => LpS H H' d c pw pn px bws ns [] ∧ ∃ vr : V, RowAt H' vr ∧ σ' = [some (.ref d), some (.int k), some (.ref nm), some (.ref pw), some (.ref pn), some (.ref px), some (.int (i : Int)), some (.str z), some (.str fo), some vr, none]
      refine Evl.q_cut (M := M) ?_ ?_
      · (with_reducible refine w_asg ?_)
        (with_reducible refine w_tup ?_)
        (with_reducible refine w_cons ?_)
        (with_reducible refine w_c ?_)
        (with_reducible refine w_cons ?_)
        (with_reducible refine w_c ?_)
        (with_reducible refine w_cons ?_)
        (with_reducible refine w_c ?_)
        (with_reducible refine w_cons ?_)
        (with_reducible refine w_c ?_)
        (with_reducible refine w_nil ?_)
        refine w_kTup (by show 4 ≤ sizeLine; decide) fun t8 H8 n8 s8 h8 => ?_
        (with_reducible refine w_name ?_)
        exact ⟨S7.same s8, _, ⟨t8, 0, "add", "dss", [1, 2, 3], rfl, h8, ⟨rfl, .dss (by unfold R16; decide) (by unfold R16; decide) (by unfold R16; decide)⟩⟩, rfl⟩
      rintro σ' H8 ⟨S8, vr8, R8, rfl⟩
      refine Evl.q_cut (M := M) ?_ ?_
      · (with_reducible refine w_ifS ?_)
        (with_reducible refine w_test ?_)
        (with_reducible refine w_op ?_)
        ((with_reducible refine' w_var ?hv ?_); (case hv => exact rfl))
        (with_reducible refine w_c ?_)
        (with_reducible refine w_eqS ?_)
        (with_reducible refine w_bl ?_)
        refine w_dec (fun e1 => ?_) (fun e1 => ?_)
        · (with_reducible refine w_asg ?_)
          (with_reducible refine w_tup ?_)
          (with_reducible refine w_cons ?_)
          (with_reducible refine w_c ?_)
          (with_reducible refine w_cons ?_)
          (with_reducible refine w_call ?_)
          (with_reducible refine w_cons ?_)
          ((with_reducible refine' w_var ?hv ?_); (case hv => exact rfl))
          (with_reducible refine w_cons ?_)
          (with_reducible refine w_c ?_)
          (with_reducible refine w_nil ?_)
          refine w_take S8.dr (by decide) (by decide) fun r2 H9 r20 r21 hd9 b9 => ?_
          have S9 := S8.draw hd9 b9
          (with_reducible refine w_cons ?_)
          (with_reducible refine w_c ?_)
          (with_reducible refine w_nil ?_)
          refine w_kTup (by show 3 ≤ sizeLine; decide) fun t8 H10 n8 s8 h8 => ?_
          (with_reducible refine w_name ?_)
          exact ⟨S9.same s8, _, ⟨t8, 33, "jal", "dj", [r2, 0], rfl, h8, ⟨rfl, .dj ⟨r20, r21⟩ (by decide)⟩⟩, rfl⟩
        · (with_reducible refine w_next ?_)
          exact ⟨S8, _, R8, rfl⟩
      rintro σ' H9 ⟨S9, vr9, R9, rfl⟩
      refine Evl.q_cut (M := M) ?_ ?_
      · (with_reducible refine w_ifS ?_)
        (with_reducible refine w_test ?_)
        (with_reducible refine w_op ?_)
        ((with_reducible refine' w_var ?hv ?_); (case hv => exact rfl))
        (with_reducible refine w_c ?_)
        (with_reducible refine w_eqS ?_)
        (with_reducible refine w_bl ?_)
        refine w_dec (fun e1 => ?_) (fun e1 => ?_)
        · (with_reducible refine w_asg ?_)
          (with_reducible refine w_tup ?_)
          (with_reducible refine w_cons ?_)
          (with_reducible refine w_c ?_)
          (with_reducible refine w_cons ?_)
          (with_reducible refine w_call ?_)
          (with_reducible refine w_cons ?_)
          ((with_reducible refine' w_var ?hv ?_); (case hv => exact rfl))
          (with_reducible refine w_cons ?_)
          (with_reducible refine w_c ?_)
          (with_reducible refine w_nil ?_)
          refine w_take S9.dr (by decide) (by decide) fun r2 H10 r20 r21 hd10 b10 => ?_
          have S10 := S9.draw hd10 b10
          (with_reducible refine w_cons ?_)
          (with_reducible refine w_c ?_)
          (with_reducible refine w_nil ?_)
          refine w_kTup (by show 3 ≤ sizeLine; decide) fun t8 H11 n8 s8 h8 => ?_
          (with_reducible refine w_name ?_)
          exact ⟨S10.same s8, _, ⟨t8, 21, "lui", "du", [r2, 5], rfl, h8, ⟨rfl, .du ⟨r20, r21⟩ (by decide)⟩⟩, rfl⟩
        · (with_reducible refine w_next ?_)
          exact ⟨S9, _, R9, rfl⟩
      rintro σ' H10 ⟨S10, vr10, R10, rfl⟩
      refine Evl.q_cut (M := M) ?_ ?_
      · (with_reducible refine w_ifS ?_)
        (with_reducible refine w_test ?_)
        (with_reducible refine w_op ?_)
        ((with_reducible refine' w_var ?hv ?_); (case hv => exact rfl))
        (with_reducible refine w_c ?_)
        (with_reducible refine w_eqS ?_)
        (with_reducible refine w_bl ?_)
        refine w_dec (fun e1 => ?_) (fun e1 => ?_)
        · (with_reducible refine w_asg ?_)
          (with_reducible refine w_op ?_)
          (with_reducible refine w_lst ?_)
          (with_reducible refine w_cons ?_)
          (with_reducible refine w_tup ?_)
          (with_reducible refine w_cons ?_)
          (with_reducible refine w_c ?_)
          (with_reducible refine w_cons ?_)
          (with_reducible refine w_c ?_)
          (with_reducible refine w_cons ?_)
          (with_reducible refine w_c ?_)
          (with_reducible refine w_cons ?_)
          (with_reducible refine w_c ?_)
          (with_reducible refine w_nil ?_)
          refine w_kTup (by show 4 ≤ sizeLine; decide) fun ta H11 na sa ha => ?_
          (with_reducible refine w_cons ?_)
          (with_reducible refine w_tup ?_)
          (with_reducible refine w_cons ?_)
          (with_reducible refine w_c ?_)
          (with_reducible refine w_cons ?_)
          (with_reducible refine w_c ?_)
          (with_reducible refine w_cons ?_)
          (with_reducible refine w_c ?_)
          (with_reducible refine w_cons ?_)
          (with_reducible refine w_c ?_)
          (with_reducible refine w_nil ?_)
          refine w_kTup (by show 4 ≤ sizeLine; decide) fun tb H12 nb sb hb => ?_
          (with_reducible refine w_cons ?_)
          (with_reducible refine w_tup ?_)
          (with_reducible refine w_cons ?_)
          (with_reducible refine w_c ?_)
          (with_reducible refine w_cons ?_)
          (with_reducible refine w_c ?_)
          (with_reducible refine w_cons ?_)
          (with_reducible refine w_c ?_)
          (with_reducible refine w_cons ?_)
          (with_reducible refine w_un ?_)
          (with_reducible refine w_c ?_)
          (with_reducible refine w_U ?_)
          (with_reducible refine w_nil ?_)
          refine w_kTup (by show 4 ≤ sizeLine; decide) fun tc H13 nc sc hc => ?_
          (with_reducible refine w_nil ?_)
          refine w_kLst (by show 3 ≤ sizeLine; decide) fun tl H14 nl sl hl => ?_
          (with_reducible refine w_call ?_)
          (with_reducible refine w_cons ?_)
          ((with_reducible refine' w_var ?hv ?_); (case hv => exact rfl))
          (with_reducible refine w_cons ?_)
          (with_reducible refine w_c ?_)
          (with_reducible refine w_nil ?_)
          have S13 := S10.same (sa.trans (sb.trans sc))
          have S14 := S13.same sl
          refine w_take S14.dr (by decide) (by decide) fun r2 H15 r20 r21 hd15 b15 => ?_
          have S15 := S14.draw hd15 b15
          have hl' := b15 tl _ (S13.dr.ne nl) hl
          obtain ⟨⟨xd, ed⟩, _⟩ := S14.dr.hdl
          have tk := TK.lst b15 ed
          skip
          have h3 : r2 = 0 ∨ r2 = 1 ∨ r2 = 2 := by omega
          rcases h3 with rfl | rfl | rfl
          · refine w_ixL (v := .ref ta) hl' rfl ?_
            (with_reducible refine w_name ?_)
            exact ⟨S15, _, ⟨ta, 13, "addi", "dsi", [3, 3, 1], rfl, tk _ _ (sl _ _ (sc _ _ (sb _ _ ha))), ⟨rfl, .dsi (by unfold R16; decide) (by unfold R16; decide) (by decide)⟩⟩, rfl⟩
          · refine w_ixL (v := .ref tb) hl' rfl ?_
            (with_reducible refine w_name ?_)
            exact ⟨S15, _, ⟨tb, 22, "lw", "dsi", [4, 3, 0], rfl, tk _ _ (sl _ _ (sc _ _ hb)), ⟨rfl, .dsi (by unfold R16; decide) (by unfold R16; decide) (by decide)⟩⟩, rfl⟩
          · refine w_ixL (v := .ref tc) hl' rfl ?_
            (with_reducible refine w_name ?_)
            exact ⟨S15, _, ⟨tc, 26, "sb", "ssi", [5, 3, -1], rfl, tk _ _ (sl _ _ hc), ⟨rfl, .ssi (by unfold R16; decide) (by unfold R16; decide) (by decide)⟩⟩, rfl⟩
        · (with_reducible refine w_next ?_)
          exact ⟨S10, _, R10, rfl⟩
      rintro σ' H11 ⟨S11, vr11, R11, rfl⟩
      refine Evl.q_cut (M := M) ?_ ?_
      · (with_reducible refine w_ifS ?_)
        (with_reducible refine w_test ?_)
        (with_reducible refine w_op ?_)
        (with_reducible refine w_call ?_)
        (with_reducible refine w_cons ?_)
        ((with_reducible refine' w_var ?hv ?_); (case hv => exact rfl))
        (with_reducible refine w_cons ?_)
        (with_reducible refine w_c ?_)
        (with_reducible refine w_nil ?_)
        refine w_take S11.dr (by decide) (by decide) fun r2 H12 r20 r21 hd12 b12 => ?_
        have S12 := S11.draw hd12 b12
        obtain ⟨⟨xd, ed⟩, _⟩ := S11.dr.hdl
        (with_reducible refine w_c ?_)
        (with_reducible refine w_eqI ?_)
        (with_reducible refine w_bl ?_)
        refine w_dec (fun e1 => ?_) (fun e1 => ?_)
        · (with_reducible refine w_asg ?_)
          (with_reducible refine w_tup ?_)
          (with_reducible refine w_cons ?_)
          (with_reducible refine w_c ?_)
          (with_reducible refine w_cons ?_)
          (with_reducible refine w_c ?_)
          (with_reducible refine w_cons ?_)
          (with_reducible refine w_c ?_)
          (with_reducible refine w_cons ?_)
          (with_reducible refine w_c ?_)
          (with_reducible refine w_nil ?_)
          refine w_kTup (by show 4 ≤ sizeLine; decide) fun t8 H13 n8 s8 h8 => ?_
          (with_reducible refine w_name ?_)
          exact ⟨S12.same s8, _, ⟨t8, 5, "xor", "dss", [1, 2, 3], rfl, h8, ⟨rfl, .dss (by unfold R16; decide) (by unfold R16; decide) (by unfold R16; decide)⟩⟩, rfl⟩
        · (with_reducible refine w_next ?_)
          exact ⟨S12, _, R11.tk (TK.lst b12 ed), rfl⟩
      rintro σ' H12 ⟨S12, vr12, ⟨t, n, op, fm, xr, rfl, ht, hin⟩, rfl⟩
      have hwf := enc_fits hin
      have il : i ≤ 5 := by omega
      have bl := A5.l
      refine Evl.q_cut (M := fun σ' H' => LpS H H' d c pw pn px (bws ++ [encW n fm xr]) ns [] ∧ ∃ v9 : Option V, σ' = [some (.ref d), some (.int k), some (.ref nm), some (.ref pw), some (.ref pn), some (.ref px), some (.int (i : Int)), some (.str z), some (.str fo), v9, none]) ?_ ?_
      · have hw12 := S12.hw
        (with_reducible refine w_drop ?_)
        (with_reducible refine w_bm ?_)
        ((with_reducible refine' w_var ?hv ?_); (case hv => exact rfl))
        ((with_reducible refine' w_tyL ?hh ?_); (case hh => assumption))
        (with_reducible refine w_cons ?_)
        (with_reducible refine w_call ?_)
        (with_reducible refine w_cons ?_)
        ((with_reducible refine' w_var ?hv ?_); (case hv => exact rfl))
        (with_reducible refine w_nil ?_)
        refine ⟨t, n, op, fm, xr, rfl, .of ht, hin.at_, hin.fits.r, fun H13 s13 => ?_⟩
        have S13 := S12.same s13
        (with_reducible refine w_nil ?_)
        refine w_append S13.hw (by rw [List.length_map]; exact small1000 (by omega)) fun H14 hw14 b14 => ?_
        skip
        exact ⟨S13.word hw14 b14, _, rfl⟩
      rintro σ' H13 ⟨S13, v9''', rfl⟩
      (with_reducible refine w_ifS ?_)
      (with_reducible refine w_test ?_)
      (with_reducible refine w_op ?_)
      (with_reducible refine w_call ?_)
      (with_reducible refine w_cons ?_)
      ((with_reducible refine' w_var ?hv ?_); (case hv => exact rfl))
      (with_reducible refine w_cons ?_)
      (with_reducible refine w_c ?_)
      (with_reducible refine w_nil ?_)
      refine w_take S13.dr (by decide) (by decide) fun r2 H14 r20 r21 hd14 b14 => ?_
      have S14 := S13.draw hd14 b14
      (with_reducible refine w_c ?_)
      (with_reducible refine w_I0 ?_)
      (with_reducible refine w_bl ?_)
      refine w_dec (fun e1 => ?_) (fun e1 => ?_)
      · obtain ⟨nv, hnv, anv⟩ := S14.hn
        (with_reducible refine w_drop ?_)
        (with_reducible refine w_bm ?_)
        ((with_reducible refine' w_var ?hv ?_); (case hv => exact rfl))
        ((with_reducible refine' w_tyL ?hh ?_); (case hh => assumption))
        (with_reducible refine w_cons ?_)
        (with_reducible refine w_tup ?_)
        (with_reducible refine w_cons ?_)
        (with_reducible refine w_op ?_)
        (with_reducible refine w_c ?_)
        ((with_reducible refine' w_var ?hv ?_); (case hv => exact rfl))
        ((with_reducible refine w_I ?hc ?_); (case hc => walk_at "side"))
        (with_reducible refine w_cons ?_)
        ((with_reducible refine' w_var ?hv ?_); (case hv => exact rfl))
        (with_reducible refine w_cons ?_)
        ((with_reducible refine' w_var ?hv ?_); (case hv => exact rfl))
        (with_reducible refine w_nil ?_)
        refine w_kTup (by show 3 ≤ sizeLine; decide) fun t8 H15 n8 s8 h8 => ?_
        have S15 := S14.same s8
        have hnv15 := s8 _ _ hnv
        have nl := A5.nl
        (with_reducible refine w_nil ?_)
        refine w_append hnv15 (by rw [anv.1]; exact small1000 (by omega)) fun H16 h16 b16 => ?_
        skip
        exact ⟨_, _, _, _, _, _, S15.need hnv15 (e := (4 * (i : Int), fo, z)) ⟨t8, rfl, h8⟩ h16 b16, A5.need hwf (form_is _ hfo) hz, rfl⟩
      · (with_reducible refine w_next ?_)
        exact ⟨_, _, _, _, _, _, S14, A5.word hwf, rfl⟩
    · obtain ⟨bws, ns, v6, v7, v8, v9, S5, A5, rfl⟩ := h
      exact ⟨_, bws, ns, _, _, _, _, by omega, by omega, S5, A5, rfl⟩
  rintro σ' H4 ⟨n, bws, ns, v6, v7, v8, v9, n1, n5, S4, A4, rfl⟩
  refine Evl.q_cut (M := fun σ' H' => ∃ (xs : List (Int × Str)) (v6 v7 v8 v9 : Option V), LpS H H' d c pw pn px bws ns xs ∧ xs.length ≤ 2 ∧ (∀ e ∈ xs, (0 ≤ e.1 ∧ e.1 ≤ 100 ∧ e.1 % 4 = 0) ∧ e.2 ∈ pool) ∧ σ' = [some (.ref d), some (.int k), some (.ref nm), some (.ref pw), some (.ref pn), some (.ref px), v6, v7, v8, v9, none]) ?_ ?_
  · (with_reducible refine w_for ?_)
    (with_reducible refine w_rng1 ?_)
    (with_reducible refine w_cons ?_)
    (with_reducible refine w_call ?_)
    (with_reducible refine w_cons ?_)
    ((with_reducible refine' w_var ?hv ?_); (case hv => exact rfl))
    (with_reducible refine w_cons ?_)
    (with_reducible refine w_c ?_)
    (with_reducible refine w_nil ?_)
    refine w_take S4.dr (by decide) (by decide) fun n0 H5 n00 n01 hd5 b5 => ?_
    have S5 := S4.draw hd5 b5
    (with_reducible refine w_nil ?_)
    refine w_forR n0.toNat (fun i σ H' => ∃ (xs : List (Int × Str)) (v6 v7 v8 v9 : Option V), LpS H H' d c pw pn px bws ns xs ∧ xs.length ≤ i ∧ (∀ e ∈ xs, (0 ≤ e.1 ∧ e.1 ≤ 100 ∧ e.1 % 4 = 0) ∧ e.2 ∈ pool) ∧ σ = [some (.ref d), some (.int k), some (.ref nm), some (.ref pw), some (.ref pn), some (.ref px), v6, v7, v8, v9, none]) rfl (by omega) ⟨[], _, _, _, _, S5, Nat.le_refl _, fun e h => (by cases h), rfl⟩ (fun i σ H6 hi h => ?_) (fun σ H6 h => ?_)
    · obtain ⟨xs, v6, v7, v8, v9, S6, xl, xo, rfl⟩ := h
      have bl := A4.l
      have hw6 := S6.hw
      obtain ⟨xv6, hx6, ax6⟩ := S6.hx
      (with_reducible refine w_name ?_)
      (with_reducible refine w_drop ?_)
      (with_reducible refine w_bm ?_)
      ((with_reducible refine' w_var ?hv ?_); (case hv => exact rfl))
      ((with_reducible refine' w_tyL ?hh ?_); (case hh => assumption))
      (with_reducible refine w_cons ?_)
      (with_reducible refine w_tup ?_)
      (with_reducible refine w_cons ?_)
      (with_reducible refine w_op ?_)
      (with_reducible refine w_c ?_)
      (with_reducible refine w_call ?_)
      (with_reducible refine w_cons ?_)
      ((with_reducible refine' w_var ?hv ?_); (case hv => exact rfl))
      (with_reducible refine w_cons ?_)
      (with_reducible refine w_cb ?_)
      (with_reducible refine w_cons ?_)
      ((with_reducible refine' w_var ?hv ?_); (case hv => exact rfl))
      (with_reducible refine w_nil ?_)
      ((with_reducible refine' w_lenL ?hh ?_); (case hh => assumption))
      (with_reducible refine w_nil ?_)
      rw [List.length_map]
      refine w_take S6.dr (by omega) (by omega) fun r2 H7 r20 r21 hd7 b7 => ?_
      have S7 := S6.draw hd7 b7
      have h7 := hnmS S7
      ((with_reducible refine w_I ?hc ?_); (case hc => walk_at "side"))
      (with_reducible refine w_cons ?_)
      (with_reducible refine w_op ?_)
      ((with_reducible refine' w_var ?hv ?_); (case hv => exact rfl))
      (with_reducible refine w_op ?_)
      (with_reducible refine w_op ?_)
      (with_reducible refine w_op ?_)
      (with_reducible refine w_c ?_)
      ((with_reducible refine' w_var ?hv ?_); (case hv => exact rfl))
      ((with_reducible refine w_I ?hc ?_); (case hc => walk_at "side"))
      ((with_reducible refine' w_var ?hv ?_); (case hv => exact rfl))
      (with_reducible refine w_I0 ?_)
      (with_reducible refine w_cb ?_)
      (with_reducible refine w_cons ?_)
      ((with_reducible refine' w_var ?hv ?_); (case hv => exact rfl))
      (with_reducible refine w_nil ?_)
      ((with_reducible refine' w_lenL ?hh ?_); (case hh => assumption))
      ((with_reducible refine w_I ?hc ?_); (case hc => walk_at "side"))
      have hlen : ((namesL.map V.str).length : Int) = 6 := rfl
      rw [hlen]
      obtain ⟨z, hz, ea⟩ := pickL namesL (k := (2 * k + (i : Int)) % 6) (by omega) (by show _ < ((6 : Nat) : Int); omega)
      refine w_ixL h7 ea ?_
      (with_reducible refine w_nil ?_)
      refine w_kTup (by show 2 ≤ sizeLine; decide) fun t8 H8 n8 s8 h8 => ?_
      have S8 := S7.same s8
      obtain ⟨xv, hx, ax⟩ := S8.hx
      (with_reducible refine w_nil ?_)
      refine w_append hx (by rw [ax.1]; exact small1000 (by omega)) fun H9 h9 b9 => ?_
      skip
      refine ⟨_, _, _, _, _, S8.exp hx (e := (4 * r2, z)) ⟨t8, rfl, h8⟩ h9 b9, by rw [List.length_append]; exact Nat.succ_le_succ xl, fun e he => ?_, rfl⟩
      rcases List.mem_append.mp he with y | y
      · exact xo e y
      · rw [List.mem_singleton.mp y]
        exact ⟨by show 0 ≤ 4 * r2 ∧ 4 * r2 ≤ 100 ∧ 4 * r2 % 4 = 0; omega, names_pool z hz⟩
    · obtain ⟨xs, v6, v7, v8, v9, S6, xl, xo, rfl⟩ := h
      exact ⟨xs, _, _, _, _, S6, by omega, xo, rfl⟩
  rintro σ' H5 ⟨xs, v6', v7', v8', v9', S5, xl, xo, rfl⟩
  refine Evl.q_cut (M := fun σ' H' => ∃ (xs : List (Int × Str)) (v6 v7 v8 v9 : Option V), LpS H H' d c pw pn px bws ns xs ∧ xs.length ≤ 3 ∧ (∀ e ∈ xs, (0 ≤ e.1 ∧ e.1 ≤ 100 ∧ e.1 % 4 = 0) ∧ e.2 ∈ pool) ∧ σ' = [some (.ref d), some (.int k), some (.ref nm), some (.ref pw), some (.ref pn), some (.ref px), v6, v7, v8, v9, none]) ?_ ?_
  · (with_reducible refine w_ifS ?_)
    (with_reducible refine w_test ?_)
    (with_reducible refine w_op ?_)
    (with_reducible refine w_call ?_)
    (with_reducible refine w_cons ?_)
    ((with_reducible refine' w_var ?hv ?_); (case hv => exact rfl))
    (with_reducible refine w_cons ?_)
    (with_reducible refine w_c ?_)
    (with_reducible refine w_nil ?_)
    refine w_take S5.dr (by decide) (by decide) fun r2 H6 r20 r21 hd6 b6 => ?_
    have S6 := S5.draw hd6 b6
    (with_reducible refine w_c ?_)
    (with_reducible refine w_eqI ?_)
    (with_reducible refine w_bl ?_)
    refine w_dec (fun e1 => ?_) (fun e1 => ?_)
    · obtain ⟨xv6, hx6, ax6⟩ := S6.hx
      (with_reducible refine w_drop ?_)
      (with_reducible refine w_bm ?_)
      ((with_reducible refine' w_var ?hv ?_); (case hv => exact rfl))
      ((with_reducible refine' w_tyL ?hh ?_); (case hh => assumption))
      (with_reducible refine w_cons ?_)
      (with_reducible refine w_tup ?_)
      (with_reducible refine w_cons ?_)
      (with_reducible refine w_c ?_)
      (with_reducible refine w_cons ?_)
      (with_reducible refine w_op ?_)
      (with_reducible refine w_lst ?_)
      (with_reducible refine w_cons ?_)
      (with_reducible refine w_c ?_)
      (with_reducible refine w_cons ?_)
      (with_reducible refine w_c ?_)
      (with_reducible refine w_cons ?_)
      (with_reducible refine w_c ?_)
      (with_reducible refine w_nil ?_)
      refine w_kLst (by show 3 ≤ sizeLine; decide) fun l7 H7 n7 s7 h7 => ?_
      have S7 := S6.same s7
      (with_reducible refine w_call ?_)
      (with_reducible refine w_cons ?_)
      ((with_reducible refine' w_var ?hv ?_); (case hv => exact rfl))
      (with_reducible refine w_cons ?_)
      (with_reducible refine w_c ?_)
      (with_reducible refine w_nil ?_)
      refine w_take S7.dr (by decide) (by decide) fun r3 H8 r30 r31 hd8 b8 => ?_
      have S8 := S7.draw hd8 b8
      have h8 : H8 l7 = some (.lst (([("start" : Str), ("Bad" : Str), ("f0" : Str)] : List Str).map V.str)) := b8 l7 _ (S6.dr.ne n7) h7
      skip
      obtain ⟨z, hz, ea⟩ := pickL [("start" : Str), ("Bad" : Str), ("f0" : Str)] r30 (show r3 < ((3 : Nat) : Int) from r31)
      have hzp : z ∈ pool := (by decide +kernel : ∀ z ∈ [("start" : Str), ("Bad" : Str), ("f0" : Str)], z ∈ pool) z hz
      refine w_ixL h8 ea ?_
      (with_reducible refine w_nil ?_)
      refine w_kTup (by show 2 ≤ sizeLine; decide) fun t8 H9 n9 s9 h9 => ?_
      have S9 := S8.same s9
      obtain ⟨xv, hx, ax⟩ := S9.hx
      (with_reducible refine w_nil ?_)
      refine w_append hx (by rw [ax.1]; exact small1000 (by omega)) fun H10 h10 b10 => ?_
      skip
      refine ⟨_, _, _, _, _, S9.exp hx (e := (0, z)) ⟨t8, rfl, h9⟩ h10 b10, by rw [List.length_append]; exact Nat.succ_le_succ xl, fun e he => ?_, rfl⟩
      rcases List.mem_append.mp he with y | y
      · exact xo e y
      · rw [List.mem_singleton.mp y]
        exact ⟨⟨by show (0 : Int) ≤ 0; decide, by show (0 : Int) ≤ 100; decide, by show (0 : Int) % 4 = 0; decide⟩, hzp⟩
    · (with_reducible refine w_next ?_)
      exact ⟨xs, _, _, _, _, S6, by omega, xo, rfl⟩
  rintro σ' H6 ⟨xs, v6'', v7'', v8'', v9'', S6, xl, xo, rfl⟩
  have bl := A4.l
  refine Evl.q_cut (M := fun σ' H' => ∃ (qw : Addr) (zn : Nat), DrawC H' d c ∧ But d H H' ∧ H' qw = some (.lst ((bws ++ List.replicate zn 0).map V.int)) ∧ zn ≤ 16400 ∧ qw ≠ d ∧ (∃ nv, H' pn = some (.lst nv) ∧ Al (NdAt H') nv ns) ∧ (∃ xv, H' px = some (.lst xv) ∧ Al (SymAt H') xv xs) ∧ ∃ v6 v7 v8 v9 : Option V, σ' = [some (.ref d), some (.int k), some (.ref nm), some (.ref qw), some (.ref pn), some (.ref px), v6, v7, v8, v9, none]) ?_ ?_
  · (with_reducible refine w_ifS ?_)
    (with_reducible refine w_test ?_)
    (with_reducible refine w_op ?_)
    (with_reducible refine w_call ?_)
    (with_reducible refine w_cons ?_)
    ((with_reducible refine' w_var ?hv ?_); (case hv => exact rfl))
    (with_reducible refine w_cons ?_)
    (with_reducible refine w_c ?_)
    (with_reducible refine w_nil ?_)
    refine w_take S6.dr (by decide) (by decide) fun r2 H7 r20 r21 hd7 b7 => ?_
    have S7 := S6.draw hd7 b7
    (with_reducible refine w_c ?_)
    (with_reducible refine w_eqI ?_)
    (with_reducible refine w_bl ?_)
    refine w_dec (fun e1 => ?_) (fun e1 => ?_)
    · have hw7 := S7.hw
      (with_reducible refine w_asg ?_)
      (with_reducible refine w_op ?_)
      ((with_reducible refine' w_var ?hv ?_); (case hv => exact rfl))
      (with_reducible refine w_op ?_)
      (with_reducible refine w_lst ?_)
      (with_reducible refine w_cons ?_)
      (with_reducible refine w_c ?_)
      (with_reducible refine w_nil ?_)
      refine w_kLst (by show 1 ≤ sizeLine; decide) fun l8 H8 n8 s8 h8 => ?_
      (with_reducible refine w_c ?_)
      refine w_rep (ys := (List.replicate 16400 (0 : Int)).map V.int) h8 ⟨by decide, by decide⟩ (by show 1 * 16400 ≤ sizeLine; decide) (by rw [List.map_replicate]; exact rep_one 16400 _) fun l9 H9 n9 s9 h9 => ?_
      have hw9 := s9 _ _ (s8 _ _ hw7)
      refine w_catL hw9 h9 (by rw [List.length_map, List.length_map, List.length_replicate]; exact Nat.le_trans (Nat.add_le_add_right (show bws.length ≤ 5 by omega) _) (by decide)) fun l10 H10 n10 s10 h10 => ?_
      (with_reducible refine w_name ?_)
      have sA := s8.trans (s9.trans s10)
      have S10 := S7.same sA
      refine ⟨l10, 16400, S10.dr, S10.fr, by rw [h10, List.map_append], by decide, ((S7.same (s8.trans s9)).dr.ne n10), S10.hn, S10.hx, _, _, _, _, rfl⟩
    · (with_reducible refine w_next ?_)
      exact ⟨pw, 0, S7.dr, S7.fr, by rw [List.replicate_zero, List.append_nil]; exact S7.hw, by decide, S7.ne.1, S7.hn, S7.hx, _, _, _, _, rfl⟩
  rintro σ' H7 ⟨qw, zn, hd7, b7, hq7, hzn, nqd, ⟨nv, hnv, anv⟩, ⟨xv, hxv, axv⟩, v6, v7, v8, v9, rfl⟩
  refine Evl.q_cut (M := fun σ' H' => ∃ kd : Int, DrawC H' d c ∧ But d H7 H' ∧ σ' = [some (.ref d), some (.int k), some (.ref nm), some (.ref qw), some (.ref pn), some (.ref px), v6, v7, v8, v9, some (.int kd)]) ?_ ?_
  · (with_reducible refine w_asg ?_)
    (with_reducible refine w_call ?_)
    (with_reducible refine w_cons ?_)
    ((with_reducible refine' w_var ?hv ?_); (case hv => exact rfl))
    (with_reducible refine w_cons ?_)
    (with_reducible refine w_c ?_)
    (with_reducible refine w_nil ?_)
    refine w_take hd7 (by decide) (by decide) fun r2 H8 r20 r21 hd8 b8 => ?_
    (with_reducible refine w_name ?_)
    exact ⟨r2, hd8, b8, rfl⟩
  rintro σ' H8 ⟨kd, hd8, b8, rfl⟩
  obtain ⟨⟨xd, ed⟩, _⟩ := hd7.hdl
  have tk8 := TK.lst b8 ed
  have hpn : pn ≠ d := S6.ne.2.1
  have hpx : px ≠ d := S6.ne.2.2.1
  have hq8 := b8 _ _ nqd hq7
  have hn8 := b8 _ _ hpn hnv
  have hx8 := b8 _ _ hpx hxv
  (with_reducible refine w_ret ?_)
  (with_reducible refine w_tup ?_)
  (with_reducible refine w_cons ?_)
  (with_reducible refine w_op ?_)
  (with_reducible refine w_c ?_)
  (with_reducible refine w_cb ?_)
  (with_reducible refine w_cons ?_)
  ((with_reducible refine' w_var ?hv ?_); (case hv => exact rfl))
  (with_reducible refine w_nil ?_)
  refine w_strI (by omega) ?_
  have dl := dcT_len (i := k) (by omega)
  refine w_addS (by exact Nat.le_trans (Nat.add_le_add_left dl 1) (by decide)) ?_
  (with_reducible refine w_cons ?_)
  (with_reducible refine w_cb ?_)
  (with_reducible refine w_cons ?_)
  ((with_reducible refine' w_var ?hv ?_); (case hv => exact rfl))
  (with_reducible refine w_nil ?_)
  refine w_tupL (.of hq8) fun tw H9 n9 s9 h9 => ?_
  (with_reducible refine w_cons ?_)
  (with_reducible refine w_op ?_)
  ((with_reducible refine' w_var ?hv ?_); (case hv => exact rfl))
  (with_reducible refine w_c ?_)
  (with_reducible refine w_eqI ?_)
  (with_reducible refine w_cons ?_)
  (with_reducible refine w_op ?_)
  ((with_reducible refine' w_var ?hv ?_); (case hv => exact rfl))
  (with_reducible refine w_c ?_)
  (with_reducible refine w_eqI ?_)
  (with_reducible refine w_cons ?_)
  (with_reducible refine w_cb ?_)
  (with_reducible refine w_cons ?_)
  ((with_reducible refine' w_var ?hv ?_); (case hv => exact rfl))
  (with_reducible refine w_nil ?_)
  refine w_tupL (.of (s9 _ _ hx8)) fun tx H10 n10 s10 h10 => ?_
  (with_reducible refine w_cons ?_)
  (with_reducible refine w_cb ?_)
  (with_reducible refine w_cons ?_)
  ((with_reducible refine' w_var ?hv ?_); (case hv => exact rfl))
  (with_reducible refine w_nil ?_)
  refine w_tupL (.of (s10 _ _ (s9 _ _ hn8))) fun tn H11 n11 s11 h11 => ?_
  (with_reducible refine w_nil ?_)
  refine w_kTup (by show 6 ≤ sizeLine; decide) fun t8 H12 n12 s12 h12 => ?_
  have s8 := s9.trans (s10.trans (s11.trans s12))
  let p : Part := ⟨("p" : Str) ++ dcT k, bws ++ List.replicate zn 0, decide (kd = 1), decide (kd = 2), xs, ns⟩
  refine q (.ref t8) p H12 (hd8.same s8) (fun x o hx h => s8 _ _ (b8 _ _ hx (b7 _ _ hx h))) ⟨t8, tw, tx, tn, xv, nv, rfl, h12, s12 _ _ (s11 _ _ (s10 _ _ h9)), s12 _ _ (s11 _ _ h10), s12 _ _ h11, axv.imp fun v g h => (h.tk tk8).tk (TK.same s8), anv.imp fun v g h => (h.tk tk8).tk (TK.same s8)⟩ ?_ ?_
  · refine ⟨?_, ?_, fun w hw => ?_, ?_, fun e he => ?_, ?_, fun e he => ?_, A4.nd⟩
    · show 1 ≤ (bws ++ List.replicate zn 0).length
      rw [List.length_append]; omega
    · show (bws ++ List.replicate zn 0).length ≤ 16500
      rw [List.length_append, List.length_replicate]; omega
    · rcases List.mem_append.mp hw with y | y
      · exact (A4.w w y).1
      · rw [List.eq_of_mem_replicate y]; decide
    · show xs.length ≤ 10
      omega
    · obtain ⟨⟨a, b, c'⟩, d'⟩ := xo e he
      obtain ⟨p1, p2, _⟩ := pool_ok _ d'
      exact ⟨a, by omega, c', by omega, p1⟩
    · show ns.length ≤ 10
      have := A4.nl
      omega
    · obtain ⟨j, hj, ej, fo, zz⟩ := A4.n e he
      have hjl : j < bws.length := by omega
      have hb : bws[j]? = some bws[j] := List.getElem?_eq_getElem hjl
      obtain ⟨_, p2, _⟩ := pool_ok _ zz
      exact ⟨j, bws[j], ej, by show (bws ++ List.replicate zn 0)[j]? = _; rw [List.getElem?_append_left hjl, hb], (A4.w _ (List.getElem_mem hjl)).2, fo, by omega⟩
  · exact ⟨⟨bws, zn, rfl, by omega, hzn⟩, ⟨sO_cat (by decide +kernel) (sO_dc k), by show (("p" : Str) ++ dcT k).length ≤ 20; rw [cat_len]; exact Nat.le_trans (Nat.add_le_add_left dl 1) (by decide)⟩, fun e he => (xo e he).2, fun e he => by obtain ⟨j, _, _, _, zz⟩ := A4.n e he; exact zz⟩
end
end K08


open PySem.W
namespace K08
open TL RZ
theorem sc_law_due : FnScope ["parts", "places", "names", "k", "offset", "name", "segments", "words", "codes", "form", "made", "code", "values", "word", "item", "row"] ["parts"] (defScope s_law_due) := ⟨rfl, rfl, rfl, by decide +kernel, rfl, by decide +kernel, by decide +kernel⟩
theorem sc_law_bytes : FnScope ["word"] ["word"] (defScope s_law_bytes) := ⟨rfl, rfl, rfl, by decide +kernel, rfl, by decide +kernel, by decide +kernel⟩
local macro_rules | `(tactic| walk_at "w1") => `(tactic| first
  | (with_reducible refine w_isS ?_)
  | (with_reducible refine w_din ?_)
  | (with_reducible refine w_dnotin ?_)
  | (with_reducible refine w_dget ?_)
  | (with_reducible refine w_dput ?_)
  | (with_reducible refine w_keys ?_))
/-! the keys differ -/
theorem lk_none {kv : KV} {z : Str} (h : lk kv z = none) : ∀ e ∈ kv, e.1 ≠ z := by
  intro e he
  unfold lk at h
  cases q : (kv.find? fun e => e.1 == z) with
  | none =>
    have := List.find?_eq_none.mp q e he
    simpa using this
  | some _ => rw [q] at h; cases h
theorem lk_mem : ∀ {kv : KV}, (kv.map (·.1)).Nodup → ∀ e ∈ kv, lk kv e.1 = some e.2
  | [], _, e, h => by cases h
  | a :: r, hn, e, h => by
    obtain ⟨h1, h2⟩ := List.nodup_cons.mp hn
    unfold lk
    rw [List.find?_cons]
    rcases List.mem_cons.mp h with rfl | h
    · simp
    · have ne : a.1 ≠ e.1 := fun z => h1 (show a.1 ∈ r.map (·.1) from by rw [z]; exact List.mem_map_of_mem h)
      rw [beq_eq_false_iff_ne.mpr ne]
      exact lk_mem h2 e h
theorem exP_nd {a : Int} {xs : List (Int × Str)} {kv : KV} (h : (kv.map (·.1)).Nodup) : ∀ j kv', exP a xs kv j = some kv' → (kv'.map (·.1)).Nodup
  | 0, kv', e => by cases e; exact h
  | j + 1, kv', e => by
    have e' : (match exP a xs kv j with
      | none => none
      | some kv' => match xs[j]? with
        | some e => exOne a kv' e
        | none => some kv') = some kv' := e
    cases q : exP a xs kv j with
    | none => rw [q] at e'; cases e'
    | some k1 =>
      rw [q] at e'
      have ih := exP_nd h j k1 q
      simp only at e'
      cases r : xs[j]? with
      | none => rw [r] at e'; cases e'; exact ih
      | some en =>
        rw [r] at e'
        simp only at e'
        unfold exOne at e'
        split at e'
        · cases e'
        · rename_i hne
          cases e'
          have hn : lk k1 en.2 = none := by
            cases z : lk k1 en.2 with
            | none => rfl
            | some v => exact absurd (.inl (by rw [z]; rfl)) hne
          rw [List.map_append]
          refine List.nodup_append.mpr ⟨ih, by simp, fun x hx y hy e => ?_⟩
          obtain ⟨e1, he1, rfl⟩ := List.mem_map.mp hx
          have : y = en.2 := by simpa using hy
          exact lk_none hn e1 he1 (e.trans this)
theorem exS_nd {ps : List Part} : ∀ i kv, exS ps i = .ok kv → (kv.map (·.1)).Nodup
  | 0, kv, e => by cases e; exact List.nodup_nil
  | i + 1, kv, e => by
    have e' : (match exS ps i with
      | .er k => ExR.er k
      | .ok kv => match ps[i]? with
        | none => .ok kv
        | some p => match exP (adN ps i) p.xs kv p.xs.length with
          | none => .er i
          | some kv' => .ok kv') = .ok kv := e
    cases q : exS ps i with
    | er k => rw [q] at e'; cases e'
    | ok k1 =>
      rw [q] at e'
      have ih := exS_nd i k1 q
      simp only at e'
      cases r : ps[i]? with
      | none => rw [r] at e'; cases e'; exact ih
      | some p =>
        rw [r] at e'
        simp only at e'
        cases t : exP (adN ps i) p.xs k1 p.xs.length with
        | none => rw [t] at e'; cases e'
        | some k2 => rw [t] at e'; cases e'; exact exP_nd ih _ _ t
/-! the law's own look at the needs -/
def codeOf (kv : KV) (a : Int) (p : Part) (e : Nd) : Option Str := if needB kv e = false then some "need" else match filN kv a p e with
  | .form => some "form"
  | .range => some "range"
  | .ok _ => none
def setL (kv : KV) (a : Int) (p : Part) (ws : List Int) (e : Nd) : List Int := if needB kv e = true then setN kv a p ws e else ws
def outL (kv : KV) (a : Int) (p : Part) (i : Nat) : List Int := (p.ns.take i).foldl (setL kv a p) p.ws
theorem setL_ne {kv : KV} {a : Int} {p : Part} {ws : List Int} {e : Nd} {j : Nat} (h : (e.1 / 4).toNat ≠ j) : (setL kv a p ws e)[j]? = ws[j]? := by
  unfold setL
  split
  · unfold setN
    split
    · exact List.getElem?_set_ne h
    · rfl
  · rfl
theorem outL_step {kv : KV} {a : Int} {p : Part} {i : Nat} {e : Nd} (h : p.ns[i]? = some e) : outL kv a p (i + 1) = setL kv a p (outL kv a p i) e := by
  unfold outL
  rw [take_more h, List.foldl_append]
  rfl
theorem outL_len (kv : KV) (a : Int) (p : Part) : ∀ i, (outL kv a p i).length = p.ws.length := by
  intro i
  unfold outL
  generalize p.ns.take i = l
  generalize p.ws = ws
  induction l generalizing ws with
  | nil => rfl
  | cons e r ih =>
    rw [List.foldl_cons, ih]
    unfold setL
    split
    · exact setN_len ..
    · rfl
theorem outL_at {kv : KV} {a : Int} {p : Part} (hp : PartOk p) {i : Nat} {e : Nd} (h : p.ns[i]? = some e) : (outL kv a p i)[(e.1 / 4).toNat]? = p.ws[(e.1 / 4).toNat]? := by
  obtain ⟨j, w, ej, _⟩ := hp.n2 e (List.mem_of_getElem? h)
  have key : ∀ k, k ≤ i → (outL kv a p k)[(e.1 / 4).toNat]? = p.ws[(e.1 / 4).toNat]? := by
    intro k
    induction k with
    | zero => intro _; rfl
    | succ k ih =>
      intro hk
      have hl : k < p.ns.length := by
        have := (List.getElem?_eq_some_iff.mp h).1
        omega
      have hk' : p.ns[k]? = some p.ns[k] := List.getElem?_eq_getElem hl
      obtain ⟨j', w', ej', _⟩ := hp.n2 p.ns[k] (List.getElem_mem hl)
      have ne : (p.ns[k].1 / 4).toNat ≠ (e.1 / 4).toNat := by
        intro z
        have e1 : p.ns[k].1 = e.1 := by omega
        have m1 : (p.ns.map (·.1))[k]? = some e.1 := by rw [List.getElem?_map, hk', ← e1]; rfl
        have m2 : (p.ns.map (·.1))[i]? = some e.1 := by rw [List.getElem?_map, h]; rfl
        have hkl : k < (p.ns.map (·.1)).length := by rw [List.length_map]; exact hl
        have := (List.getElem?_inj hkl hp.n3).mp (m1.trans m2.symm)
        omega
      rw [outL_step hk', setL_ne ne]
      exact ih (by omega)
  exact key i (Nat.le_refl _)
theorem outL_eq {kv : KV} {a : Int} {p : Part} (h : ∀ e ∈ p.ns, needB kv e = true) : ∀ i, outL kv a p i = outN kv a p i := by
  intro i
  unfold outL outN
  have h' : ∀ e ∈ p.ns.take i, needB kv e = true := fun e he => h e (List.mem_of_mem_take he)
  generalize p.ns.take i = l at *
  generalize p.ws = ws
  induction l generalizing ws with
  | nil => rfl
  | cons e r ih =>
    rw [List.foldl_cons, List.foldl_cons]
    have e1 : setL kv a p ws e = setN kv a p ws e := by unfold setL; rw [if_pos (h' e List.mem_cons_self)]
    rw [e1]
    exact ih (fun e he => h' e (List.mem_cons_of_mem _ he)) _
theorem all_eq_false {α : Type} {f : α → Bool} {l : List α} (h : (l.map f).all id = false) : ∃ x ∈ l, f x = false := by
  rw [List.all_eq_false] at h
  obtain ⟨b, hb, e⟩ := h
  obtain ⟨x, hx, rfl⟩ := List.mem_map.mp hb
  exact ⟨x, hx, by simpa using e⟩
theorem all_of_mem {α : Type} {f : α → Bool} {l : List α} {x : α} (hx : x ∈ l) (h : f x = false) : (l.map f).all id = false := by
  rw [List.all_eq_false]
  exact ⟨_, List.mem_map_of_mem hx, by rw [h]; simp⟩
def codesL (kv : KV) (a : Int) (p : Part) (i : Nat) : List Str := (p.ns.take i).filterMap (codeOf kv a p)
theorem fil_cases {kv : KV} {a : Int} {p : Part} (e : Nd) : (filN kv a p e).isForm = !formB p e := by
  unfold filN formB
  exact fil_form _ _ _ _
theorem code_need {kv : KV} {a : Int} {p : Part} {e : Nd} : codeOf kv a p e = some "need" ↔ needB kv e = false := by
  unfold codeOf
  cases h : needB kv e with
  | false => simp
  | true =>
    simp only [Bool.true_eq_false, if_false]
    cases filN kv a p e with
    | form => simp; decide +kernel
    | range => simp; decide +kernel
    | ok x => simp
theorem fb_of {b c : Bool} (h : b = !c) : c = !b := by rw [h, Bool.not_not]
theorem code_form {kv : KV} {a : Int} {p : Part} {e : Nd} (hn : needB kv e = true) : codeOf kv a p e = some "form" ↔ formB p e = false := by
  have hf := fil_cases (kv := kv) (a := a) (p := p) e
  unfold codeOf
  rw [hn, if_neg (by decide)]
  cases h : filN kv a p e with
  | form => rw [h] at hf; rw [fb_of hf]; exact ⟨fun _ => rfl, fun _ => rfl⟩
  | range => rw [h] at hf; rw [fb_of hf]; exact ⟨fun z => absurd (Option.some.inj z) (by decide +kernel), fun z => (by cases z)⟩
  | ok x => rw [h] at hf; rw [fb_of hf]; exact ⟨fun z => (by cases z), fun z => (by cases z)⟩
theorem code_range {kv : KV} {a : Int} {p : Part} {e : Nd} (hn : needB kv e = true) (hf0 : formB p e = true) : codeOf kv a p e = some "range" ↔ rangB kv a p e = false := by
  have hf := fil_cases (kv := kv) (a := a) (p := p) e
  unfold codeOf rangB
  rw [hn, if_neg (by decide)]
  cases h : filN kv a p e with
  | form => rw [h, hf0] at hf; cases hf
  | range => exact ⟨fun _ => rfl, fun _ => rfl⟩
  | ok x => exact ⟨fun z => (by cases z), fun z => (by cases z)⟩
theorem met_codes {kv : KV} {a : Int} {p : Part} {C : List Str} (hC : C = codesL kv a p p.ns.length) :
    (("need" : Str) ∈ C → metR kv a p = .er "need") ∧ (("need" : Str) ∉ C → ("form" : Str) ∈ C → metR kv a p = .er "form") ∧ (("need" : Str) ∉ C → ("form" : Str) ∉ C → ("range" : Str) ∈ C → metR kv a p = .er "range") ∧
    (("need" : Str) ∉ C → ("form" : Str) ∉ C → ("range" : Str) ∉ C → metR kv a p = .ok (outL kv a p p.ns.length)) := by
  unfold codesL at hC
  rw [List.take_length] at hC
  have mem : ∀ c, c ∈ C ↔ ∃ e ∈ p.ns, codeOf kv a p e = some c := fun c => by rw [hC, List.mem_filterMap]
  have need : ("need" : Str) ∈ C ↔ (p.ns.map (needB kv)).all id = false := by
    rw [mem]
    constructor
    · rintro ⟨e, he, h⟩
      exact all_of_mem he (code_need.mp h)
    · intro h
      obtain ⟨e, he, h⟩ := all_eq_false h
      exact ⟨e, he, code_need.mpr h⟩
  have form : ("need" : Str) ∉ C → (("form" : Str) ∈ C ↔ (p.ns.map (formB p)).all id = false) := fun hn => by
    have hb : (p.ns.map (needB kv)).all id = true := by
      cases q : (p.ns.map (needB kv)).all id with
      | true => rfl
      | false => exact absurd (need.mpr q) hn
    rw [mem]
    constructor
    · rintro ⟨e, he, h⟩
      exact all_of_mem he ((code_form (all_at hb he)).mp h)
    · intro h
      obtain ⟨e, he, h⟩ := all_eq_false h
      exact ⟨e, he, (code_form (all_at hb he)).mpr h⟩
  have rang : ("need" : Str) ∉ C → ("form" : Str) ∉ C → (("range" : Str) ∈ C ↔ (p.ns.map (rangB kv a p)).all id = false) := fun hn hf => by
    have hb : (p.ns.map (needB kv)).all id = true := by
      cases q : (p.ns.map (needB kv)).all id with
      | true => rfl
      | false => exact absurd (need.mpr q) hn
    have hb2 : (p.ns.map (formB p)).all id = true := by
      cases q : (p.ns.map (formB p)).all id with
      | true => rfl
      | false => exact absurd ((form hn).mpr q) hf
    rw [mem]
    constructor
    · rintro ⟨e, he, h⟩
      exact all_of_mem he ((code_range (all_at hb he) (all_at hb2 he)).mp h)
    · intro h
      obtain ⟨e, he, h⟩ := all_eq_false h
      exact ⟨e, he, (code_range (all_at hb he) (all_at hb2 he)).mpr h⟩
  unfold metR
  refine ⟨fun h => if_pos (need.mp h), fun h1 h2 => ?_, fun h1 h2 h3 => ?_, fun h1 h2 h3 => ?_⟩
  · rw [if_neg (fun z => h1 (need.mpr z)), if_pos ((form h1).mp h2)]
  · rw [if_neg (fun z => h1 (need.mpr z)), if_neg (fun z => h2 ((form h1).mpr z)), if_pos ((rang h1 h2).mp h3)]
  · rw [if_neg (fun z => h1 (need.mpr z)), if_neg (fun z => h2 ((form h1).mpr z)), if_neg (fun z => h3 ((rang h1 h2).mpr z))]
    have hb : (p.ns.map (needB kv)).all id = true := by
      cases q : (p.ns.map (needB kv)).all id with
      | true => rfl
      | false => exact absurd (need.mpr q) h1
    rw [outL_eq (fun e he => all_at hb he)]
end K08


open PySem.W
namespace K08
open TL RZ
local macro_rules | `(tactic| walk_at "w1") => `(tactic| first
  | (with_reducible refine w_isS ?_)
  | (with_reducible refine w_din ?_)
  | (with_reducible refine w_dnotin ?_)
  | (with_reducible refine w_dget ?_)
  | (with_reducible refine w_dput ?_)
  | (with_reducible refine w_keys ?_))
def DueAt (H : Hp) (v : V) : LnR → Prop
  | .er k c => ∃ t : Addr, v = .ref t ∧ H t = some (.tup [.int k, .str c])
  | .ok sg en kv => ∃ (t : Addr) (l : List (Int × Str)), v = .ref t ∧ ImAt H t ⟨sg, en, l⟩ ∧ SyOf kv l
def spLB : Sp := fun vs H Q _ => ∃ x : Int, vs = [.int x] ∧ 0 ≤ x ∧ x < 4294967296 ∧ ∀ r H', H r = none → Same H H' → H' r = some (.lst ((bts x).map V.int)) → Q (.ref r) H'
def spDue : Sp := fun vs H Q _ => ∃ (p : Addr) (us : List V) (ps : List Part), vs = [.ref p] ∧ H p = some (.lst us) ∧ Al (PartAt H) us ps ∧ (∀ p ∈ ps, PartOk p) ∧ (∀ p ∈ ps, PartSm p) ∧ 1 ≤ ps.length ∧ ps.length ≤ 10 ∧ ∀ v H', Same H H' → DueAt H' v (lnR ps) → Q v H'
/-- with the parts' sizes, one question is left of the size -/
theorem size_eq {ps : List Part} {W : List (List Int)} (hok : ∀ p ∈ ps, PartOk p) (h1 : 1 ≤ ps.length) (h2 : ps.length ≤ 10) (hw : ∀ ws ∈ W, ws.length ≤ 16500) : sizeF (segL ps W) = decide (65536 < ((segL ps W).map gLen).sum) := by
  have hl : (segL ps W).length = ps.length := by unfold segL; rw [List.length_map, List.length_range]
  have hn : ((segL ps W).map fun g => decide (4294967296 < (span g).2)).any id = false := by
    rw [List.any_eq_false]
    intro b hb
    obtain ⟨g, hg, rfl⟩ := List.mem_map.mp hb
    obtain ⟨j, hj, rfl⟩ := List.mem_map.mp hg
    have hj' : j < ps.length := List.mem_range.mp hj
    have : ¬ 4294967296 < (span (segJ ps W j)).2 := by
      unfold segJ span
      split
      · rename_i p0 ws0 e1 e2
        obtain ⟨a0, a1, a2⟩ := adN_le hok j
        have := hw ws0 (List.mem_of_getElem? e2)
        show ¬ 4294967296 < adN ps j + ((byt ws0).length : Int)
        rw [byt_len]
        omega
      · show ¬ (4294967296 : Int) < 0 + 0
        decide
    simp only [id, decide_eq_true_eq]
    exact this
  unfold sizeF
  rw [hn, Bool.or_false, decide_eq_true (show 1 ≤ (segL ps W).length ∧ (segL ps W).length ≤ 16 by rw [hl]; omega)]
  rfl
def cods : List Str := ["need", "form", "range"]
theorem w_kDGf {p : Addr} {o : Obj} {kvs : List (Key × V)} {z : Str} {v : V} {H : Hp} {Q : VK} (h : H p = some (.frz o (.dK kvs))) (e : valV kvs (kS z) = some v) (q : Q v H) : kDG Q (.ref p) (.str z) H := ⟨p, v, rfl, .inl ⟨kvs, kS z, .inr ⟨o, h⟩, rfl, e.symm⟩, q⟩
theorem bts_len (x : Int) : (bts x).length = 4 := rfl
section
variable {P : Program} {w : World} {K : PySem.W.Frag} {mg : Str → Option Value} {base : Heap}
theorem ok_law_bytes (b_int : mg "int" = none) (Z : St1 K mg "_law_bytes" s_law_bytes ["word"]) : Cd P w K mg base 1 "_law_bytes" spLB := by
  refine Z.cd sc_law_bytes (fun vs H Q E h => by obtain ⟨x, rfl, _⟩ := h; rfl) (fun f cdv A outer s H vs Q E hr h => ?_)
  obtain ⟨x, rfl, x0, x1, q⟩ := h
  refine ⟨_, (pss_one (ps_ret (pe_lst (pa_cons (pe_op op_mod (pe_callTy call_intQ (by rfl) b_int (by decide +kernel) (pa_cons (pv 0) pa_nil)) pe_int) (pa_cons (pe_op op_mod (pe_op op_fdiv (pv 0) pe_int) pe_int) (pa_cons (pe_op op_mod (pe_op op_fdiv (pv 0) pe_int) pe_int) (pa_cons (pe_op op_fdiv (pv 0) pe_int) pa_nil))))))), ?_⟩
  (with_reducible refine w_ret ?_)
  (with_reducible refine w_lst ?_)
  (with_reducible refine w_cons ?_)
  (with_reducible refine w_op ?_)
  (with_reducible refine w_cb ?_)
  (with_reducible refine w_cons ?_)
  ((with_reducible refine' w_var ?hv ?_); (case hv => exact rfl))
  (with_reducible refine w_nil ?_)
  (with_reducible refine w_int1 ?_)
  (with_reducible refine w_c ?_)
  ((with_reducible refine w_I ?hc ?_); (case hc => walk_at "side"))
  (with_reducible refine w_cons ?_)
  (with_reducible refine w_op ?_)
  (with_reducible refine w_op ?_)
  ((with_reducible refine' w_var ?hv ?_); (case hv => exact rfl))
  (with_reducible refine w_c ?_)
  ((with_reducible refine w_I ?hc ?_); (case hc => walk_at "side"))
  (with_reducible refine w_c ?_)
  ((with_reducible refine w_I ?hc ?_); (case hc => walk_at "side"))
  (with_reducible refine w_cons ?_)
  (with_reducible refine w_op ?_)
  (with_reducible refine w_op ?_)
  ((with_reducible refine' w_var ?hv ?_); (case hv => exact rfl))
  (with_reducible refine w_c ?_)
  ((with_reducible refine w_I ?hc ?_); (case hc => walk_at "side"))
  (with_reducible refine w_c ?_)
  ((with_reducible refine w_I ?hc ?_); (case hc => walk_at "side"))
  (with_reducible refine w_cons ?_)
  (with_reducible refine w_op ?_)
  ((with_reducible refine' w_var ?hv ?_); (case hv => exact rfl))
  (with_reducible refine w_c ?_)
  ((with_reducible refine w_I ?hc ?_); (case hc => walk_at "side"))
  (with_reducible refine w_nil ?_)
  refine w_kLst (by show 4 ≤ sizeLine; decide) fun p H' np sm hp => ?_
  exact q p H' np sm hp
theorem ok_law_due (b_range : mg "range" = none) (b_len : mg "len" = none) (b_list : mg "list" = none) (b_tuple : mg "tuple" = none) (b_sum : mg "sum" = none) (b_sorted : mg "sorted" = none) (c_law_places : Cd P w K mg base 1 "_law_places" spPlaces) (c_law_filled : Cd P w K mg base 1 "_law_filled" spFil) (c_law_bytes : Cd P w K mg base 1 "_law_bytes" spLB) (Z : St1 K mg "_law_due" s_law_due ["parts"]) : Cd P w K mg base 2 "_law_due" spDue := by
  refine Z.cd sc_law_due (fun vs H Q E h => by obtain ⟨p, us, ps, rfl, _⟩ := h; rfl) (fun f cdv A outer s H vs Q E hr h => ?_)
  obtain ⟨p, us, ps, rfl, hp, ha, hok, hsm, hl1, hl, q⟩ := h
  have hu := Nat.lt_trans (Nat.add_lt_add_left (by decide : 1 < 64) _) hr.units
  refine ⟨_, (Evl.pss_cut (ps_set (i := 1) sc_law_due.nd rfl (.inl rfl) (pe_cd c_law_places hr (by first | decide | omega) (by rfl) (pa_cons (pv 0) pa_nil)))
      (Evl.pss_cut (ps_set (i := 2) sc_law_due.nd rfl (.inr rfl) pe_dnewK)
      (Evl.pss_cut (ps_for PassesOwn.never rfl (pi_range1 (by rfl) b_range (pa_cons (pe_callB call_lenQ (by rfl) b_len PySem.boot_len (pa_cons (pv 0) pa_nil)) pa_nil)) (pg_name (i := 3) sc_law_due.nd rfl (.inl rfl))
      (pss_one (ps_for PassesOwn.never rfl (pi_tup (pe_ix ix_tup (pe_ix ix_list (pv 0) (pv 3) (fun _ _ => rfl)) pe_int (fun _ _ => rfl))) (pg_tup rfl (pgs_cons (pg_name (i := 4) sc_law_due.nd rfl (.inl rfl)) (pgs_cons (pg_name (i := 5) sc_law_due.nd rfl (.inl rfl)) pgs_nil)))
      (pss_cons (ps_if (PW.pt (pw_or (pt_cmp (pc_din hu (pv 5) (pv 2))) (pw_or1 (pt_cmpR op_eq (pv 5) pe_str (nomark _))))) (pss_one (ps_ret (pe_tup (pa_cons (pv 3) (pa_cons pe_str pa_nil))))) pss_nil)
      (pss_one (ps_dput hu (pv 2) (pv 5) (pe_op op_add (pe_ix ix_list (pv 1) (pv 3) (fun _ _ => rfl)) (pv 4)) rfl))))))
      (Evl.pss_cut (ps_set (i := 6) sc_law_due.nd rfl (.inl rfl) (pe_lst pa_nil))
      (Evl.pss_cut (ps_for PassesOwn.never rfl (pi_range1 (by rfl) b_range (pa_cons (pe_callB call_lenQ (by rfl) b_len PySem.boot_len (pa_cons (pv 0) pa_nil)) pa_nil)) (pg_name (i := 3) sc_law_due.nd rfl (.inl rfl))
      (Evl.pss_cut (ps_set (i := 7) sc_law_due.nd rfl (.inl rfl) (pe_callTy call_listQ (by rfl) b_list (by decide +kernel) (pa_cons (pe_ix ix_tup (pe_ix ix_list (pv 0) (pv 3) (fun _ _ => rfl)) pe_int (fun _ _ => rfl)) pa_nil)))
      (Evl.pss_cut (ps_set (i := 8) sc_law_due.nd rfl (.inl rfl) (pe_lst pa_nil))
      (Evl.pss_cut (ps_for PassesOwn.never rfl (pi_tup (pe_ix ix_tup (pe_ix ix_list (pv 0) (pv 3) (fun _ _ => rfl)) pe_int (fun _ _ => rfl))) (pg_tup rfl (pgs_cons (pg_name (i := 4) sc_law_due.nd rfl (.inl rfl)) (pgs_cons (pg_name (i := 9) sc_law_due.nd rfl (.inl rfl)) (pgs_cons (pg_name (i := 5) sc_law_due.nd rfl (.inl rfl)) pgs_nil))))
      (pss_one (ps_if (pt_cmp (pc_dnotin hu (pv 5) (pv 2))) (pss_one (ps_expr (pe_bm PySem.F.plainAttrs_list PySem.F.slot_list_append PySem.F.type_list_append mt_append (pv 8) (pa_cons pe_str pa_nil)))) (pss_cons (ps_set (i := 10) sc_law_due.nd rfl (.inl rfl) (pe_cd c_law_filled hr (by first | decide | omega) (by rfl) (pa_cons (pe_ix ix_list (pv 7) (pe_op op_fdiv (pv 4) pe_int) (fun _ _ => rfl)) (pa_cons (pv 9) (pa_cons (pe_op op_add (pe_ix ix_list (pv 1) (pv 3) (fun _ _ => rfl)) (pv 4)) (pa_cons (pe_dget hu (pv 2) (pv 5) (fun _ _ => rfl)) pa_nil))))))
      (pss_one (ps_if (pt_cmpR op_in_seq (pv 10) (pe_lst (pa_cons pe_str (pa_cons pe_str pa_nil))) rfl) (pss_one (ps_expr (pe_bm PySem.F.plainAttrs_list PySem.F.slot_list_append PySem.F.type_list_append mt_append (pv 8) (pa_cons (pv 10) pa_nil)))) (pss_one (ps_asg (pv 10) (pg_sub (pv 7) (pe_op op_fdiv (pv 4) pe_int) set_list)))))))))
      (Evl.pss_cut (ps_for PassesOwn.never rfl (pi_list (pe_lst (pa_cons pe_str (pa_cons pe_str (pa_cons pe_str pa_nil))))) (pg_name (i := 11) sc_law_due.nd rfl (.inl rfl))
      (pss_one (ps_if (pt_cmpR op_in_seq (pv 11) (pv 8) rfl) (pss_one (ps_ret (pe_tup (pa_cons (pv 3) (pa_cons (pv 11) pa_nil))))) pss_nil)))
      (Evl.pss_cut (ps_set (i := 12) sc_law_due.nd rfl (.inl rfl) (pe_lst pa_nil))
      (Evl.pss_cut (ps_for PassesOwn.never rfl (pi_list (pv 7)) (pg_name (i := 13) sc_law_due.nd rfl (.inl rfl))
      (pss_one (ps_for PassesOwn.never rfl (pi_list (pe_cd c_law_bytes hr (by first | decide | omega) (by rfl) (pa_cons (pv 13) pa_nil))) (pg_name (i := 14) sc_law_due.nd rfl (.inl rfl))
      (pss_one (ps_expr (pe_bm PySem.F.plainAttrs_list PySem.F.slot_list_append PySem.F.type_list_append mt_append (pv 12) (pa_cons (pv 14) pa_nil)))))))
      (pss_one (ps_expr (pe_bm PySem.F.plainAttrs_list PySem.F.slot_list_append PySem.F.type_list_append mt_append (pv 6) (pa_cons (pe_tup (pa_cons (pe_ix ix_list (pv 1) (pv 3) (fun _ _ => rfl)) (pa_cons (pe_callTy call_tupQ (by rfl) b_tuple (by decide +kernel) (pa_cons (pv 12) pa_nil)) (pa_cons (pe_ix ix_tup (pe_ix ix_list (pv 0) (pv 3) (fun _ _ => rfl)) pe_int (fun _ _ => rfl)) (pa_cons (pe_ix ix_tup (pe_ix ix_list (pv 0) (pv 3) (fun _ _ => rfl)) pe_int (fun _ _ => rfl)) pa_nil))))) pa_nil)))))))))))
      (pss_cons (ps_if (pt_cmp (pc_dnotin hu pe_str (pv 2))) (pss_one (ps_ret (pe_tup (pa_cons (pe_un un_neg pe_int) (pa_cons pe_str pa_nil))))) pss_nil)
      (pss_cons (ps_if (pt_cmpR op_gt (pe_callB (cr_sum rfl) (by rfl) b_sum (by decide +kernel) (pa_cons (pe_lc (own := [("row", 15)]) rfl sc_law_due.nd (pi_list (pv 6)) (blkOk_by (own := [("row", 15)]) (N := ["parts", "places", "names", "k", "offset", "name", "segments", "words", "codes", "form", "made", "code", "values", "word", "item", "row"]) (sc := (defScope s_law_due)) (by decide +kernel)) (fun _ _ _ _ _ => (pg_name (i := 15) sc_law_due.nd rfl (.inl rfl))) (fun _ _ _ _ _ => pts_nil) (fun _ _ _ _ _ => (pe_callB (call_lenQK (K' := K) (by rfl)) (by rfl) b_len PySem.boot_len (pa_cons (pe_ix (ix_tupK (K' := K) (by rfl)) (pv 15) pe_int (fun _ _ => rfl)) pa_nil)))) pa_nil)) pe_int (nomark _)) (pss_one (ps_ret (pe_tup (pa_cons (pe_un un_neg pe_int) (pa_cons pe_str pa_nil))))) pss_nil)
      (pss_one (ps_ret (pe_tup (pa_cons (pe_callTy call_tupQ (by rfl) b_tuple (by decide +kernel) (pa_cons (pv 6) pa_nil)) (pa_cons (pe_dget hu (pv 2) pe_str (fun _ _ => rfl)) (pa_cons (pe_callTy call_tupQ (by rfl) b_tuple (by decide +kernel) (pa_cons (pe_callB Co.cr_sortedP (by rfl) b_sorted (by decide +kernel) (pa_cons (pe_lock (pe_lc (own := [("name", 5)]) rfl sc_law_due.nd (pi_keys (pv 2)) (blkOk_by (own := [("name", 5)]) (N := ["parts", "places", "names", "k", "offset", "name", "segments", "words", "codes", "form", "made", "code", "values", "word", "item", "row"]) (sc := (defScope s_law_due)) (by decide +kernel)) (fun _ _ _ _ _ => (pg_name (i := 5) sc_law_due.nd rfl (.inl rfl))) (fun _ _ _ _ _ => pts_nil) (fun _ _ _ _ _ => (pe_tup (pa_cons (pe_dget hu (pv 2) (pv 5) (fun _ _ => rfl)) (pa_cons (pv 5) pa_nil)))))) pa_nil)) pa_nil)) pa_nil))))))))))))), ?_⟩
  refine Evl.q_cut (M := fun σ' H' => Same H H' ∧ ∃ r : Addr, H' r = some (.lst ((adrs ps).map V.int)) ∧ σ' = [some (.ref p), some (.ref r), none, none, none, none, none, none, none, none, none, none, none, none, none, none]) ?_ ?_
  · (with_reducible refine w_asg ?_)
    (with_reducible refine w_call ?_)
    (with_reducible refine w_cons ?_)
    ((with_reducible refine' w_var ?hv ?_); (case hv => exact rfl))
    (with_reducible refine w_nil ?_)
    refine ⟨p, us, ps, rfl, hp, ha, hok, hl, fun r H1 nr s1 hr1 => ?_⟩
    (with_reducible refine w_name ?_)
    exact ⟨s1, r, hr1, rfl⟩
  rintro σ' H1 ⟨s1, r, hr1, rfl⟩
  refine Evl.q_cut (M := fun σ' H' => Same H1 H' ∧ ∃ d : Addr, H1 d = none ∧ H' d = some (.dK (kvK [])) ∧ σ' = [some (.ref p), some (.ref r), some (.ref d), none, none, none, none, none, none, none, none, none, none, none, none, none]) ?_ ?_
  · (with_reducible refine w_asg ?_)
    refine w_dnewK fun d H2 nd s2 hd => ?_
    (with_reducible refine w_name ?_)
    exact ⟨s2, d, nd, hd, rfl⟩
  rintro σ' H2 ⟨s2, d, nd1, hd, rfl⟩
  have nd : H d = none := fresh s1 nd1
  have ul : (us.length : Int) = ps.length := by rw [ha.1]
  unfold lnR at q
  refine Evl.q_cut (M := fun σ' H' => Same H H' ∧ H' r = some (.lst ((adrs ps).map V.int)) ∧ ∃ (kv : KV) (v3 v4 v5 : Option V), exS ps ps.length = .ok kv ∧ H' d = some (.dK (kvK kv)) ∧ σ' = [some (.ref p), some (.ref r), some (.ref d), v3, v4, v5, none, none, none, none, none, none, none, none, none, none]) ?_ ?_
  · have hp2 := s2 _ _ (s1 _ _ hp)
    (with_reducible refine w_for ?_)
    (with_reducible refine w_rng1 ?_)
    (with_reducible refine w_cons ?_)
    (with_reducible refine w_cb ?_)
    (with_reducible refine w_cons ?_)
    ((with_reducible refine' w_var ?hv ?_); (case hv => exact rfl))
    (with_reducible refine w_nil ?_)
    ((with_reducible refine' w_lenL ?hh ?_); (case hh => assumption))
    (with_reducible refine w_nil ?_)
    refine w_forR us.length (fun i σ H' => Same H H' ∧ H' r = some (.lst ((adrs ps).map V.int)) ∧ ∃ (kv : KV) (v3 v4 v5 : Option V), exS ps i = .ok kv ∧ H' d = some (.dK (kvK kv)) ∧ σ = [some (.ref p), some (.ref r), some (.ref d), v3, v4, v5, none, none, none, none, none, none, none, none, none, none]) (by omega) (by omega) ⟨s1.trans s2, s2 _ _ hr1, [], _, _, _, rfl, hd, rfl⟩ (fun i σ H3 hi h => ?_) (fun σ H3 h => ?_)
    · obtain ⟨s3, hr3, kv, v3, v4, v5, ek, hd3, rfl⟩ := h
      have il : i < ps.length := by rw [← ha.1]; exact hi
      obtain ⟨g, hg⟩ : ∃ g, ps[i]? = some g := ⟨ps[i], List.getElem?_eq_getElem il⟩
      have hui : us[i]? = some us[i] := List.getElem?_eq_getElem hi
      have pa := ha.2 i _ g hui hg
      obtain ⟨t, tw, tx, tn, xv, nv, eu, ht, htw, htx, htn, hxv, hnv⟩ := pa.tk (TK.same s3)
      have po := hok g (List.mem_of_getElem? hg)
      have sm := hsm g (List.mem_of_getElem? hg)
      have kvo := exS_ok hok hl i kv ek
      obtain ⟨a0, a1, a2⟩ := adN_le hok i
      have hp3 := s3 _ _ hp
      have st : exS ps (i + 1) = (match exP (adN ps i) g.xs kv g.xs.length with
          | none => ExR.er i
          | some kv' => .ok kv') := by
        show (match exS ps i with | .er k => ExR.er k | .ok kv => match ps[i]? with | none => .ok kv | some p => _) = _
        rw [ek, hg] <;> rfl
      have nrd : r ≠ d := fun z => by rw [z, hd3] at hr3; cases hr3
      (with_reducible refine w_name ?_)
      (with_reducible refine w_for ?_)
      (with_reducible refine w_iT ?_)
      (with_reducible refine w_op ?_)
      (with_reducible refine w_op ?_)
      ((with_reducible refine' w_var ?hv ?_); (case hv => exact rfl))
      ((with_reducible refine' w_var ?hv ?_); (case hv => exact rfl))
      refine w_ixL (v := .ref t) hp3 (atI_nat (hui.trans (by rw [eu]))) ?_
      (with_reducible refine w_c ?_)
      ((with_reducible refine' w_ixT ?hh ?ha ?_); (case hh => assumption); (case ha => exact rfl))
      refine w_forT xv (fun j σ H' => But d H3 H' ∧ ∃ (kv' : KV) (v4 v5 : Option V), exP (adN ps i) g.xs kv j = some kv' ∧ H' d = some (.dK (kvK kv')) ∧ σ = [some (.ref p), some (.ref r), some (.ref d), some (.int (i : Int)), v4, v5, none, none, none, none, none, none, none, none, none, none]) (.of htx) ⟨But.refl _ _, kv, _, _, rfl, hd3, rfl⟩ (fun j σ H' _ h => .of (h.1 _ _ (ne_of htx hd3 (by intro z; cases z)) htx)) (fun j x σ H4 hx4 h => ?_) (fun σ H4 h => ?_)
      · obtain ⟨b4, kv', v4, v5, ej, hd4, rfl⟩ := h
        obtain ⟨en, hen, ea⟩ := hxv.at hx4
        obtain ⟨te, rfl, hte⟩ := ea.tk (TK.dic b4 hd3)
        have jl : j < g.xs.length := (List.getElem?_eq_some_iff.mp hen).1
        have hem := List.mem_of_getElem? hen
        have kvo' := exP_ok kvo ⟨by omega, by omega, a2⟩ po.x2 j kv' ej
        obtain ⟨_, _, pb⟩ := pool_ok _ (sm.bad en hem)
        have sj : exP (adN ps i) g.xs kv (j + 1) = exOne (adN ps i) kv' en := by
          show (match exP (adN ps i) g.xs kv j with | none => none | some kv' => match g.xs[j]? with | some e => exOne (adN ps i) kv' e | none => some kv') = _
          rw [ej, hen]
        have hr4 := b4 _ _ nrd hr3
        have s4 : Same H H4 := fun b o h => b4 b o (fun z => by rw [z, nd] at h; cases h) (s3 _ _ h)
        have bad : exOne (adN ps i) kv' en = none → ∀ t8 H5, Same H4 H5 → H5 t8 = some (.tup [.int (i : Int), .str "export"]) → Q (.ref t8) H5 := fun e t8 H5 s5 h5 => by
          have en1 : exP (adN ps i) g.xs kv g.xs.length = none := exP_none (sj.trans e) _ jl
          rw [en1] at st
          have := q (.ref t8) H5 (s4.trans s5)
          rw [exS_er st _ il] at this
          exact this ⟨t8, rfl, h5⟩
        ((with_reducible refine' w_gTup ?hh ?hn ?_); (case hh => assumption); (case hn => exact rfl))
        (with_reducible refine w_gCons ?_)
        (with_reducible refine w_name ?_)
        (with_reducible refine w_gCons ?_)
        (with_reducible refine w_name ?_)
        (with_reducible refine w_gNil ?_)
        (with_reducible refine w_seq ?_)
        (with_reducible refine w_ifS ?_)
        (with_reducible refine w_orT ?_)
        (with_reducible refine w_B ?_)
        (with_reducible refine w_din ?_)
        ((with_reducible refine' w_var ?hv ?_); (case hv => exact rfl))
        ((with_reducible refine' w_var ?hv ?_); (case hv => exact rfl))
        refine ⟨d, _, rfl, kv_get hd4 en.2, ?_⟩
        cases eg : lk kv' en.2 with
        | some v =>
          simp only [Option.map_some, Option.isSome_some]
          (with_reducible refine w_bl ?_)
          (with_reducible refine w_itT ?_)
          rw [if_pos trivial]
          (with_reducible refine w_ret ?_)
          (with_reducible refine w_tup ?_)
          (with_reducible refine w_cons ?_)
          ((with_reducible refine' w_var ?hv ?_); (case hv => exact rfl))
          (with_reducible refine w_cons ?_)
          (with_reducible refine w_c ?_)
          (with_reducible refine w_nil ?_)
          refine w_kTup (by show 2 ≤ sizeLine; decide) fun t8 H5 n8 s8 h8 => ?_
          exact bad (by unfold exOne; rw [eg]; rfl) t8 H5 s8 h8
        | none =>
          simp only [Option.map_none, Option.isSome_none]
          (with_reducible refine w_bl ?_)
          (with_reducible refine w_itF ?_)
          (with_reducible refine w_test ?_)
          (with_reducible refine w_op ?_)
          ((with_reducible refine' w_var ?hv ?_); (case hv => exact rfl))
          (with_reducible refine w_c ?_)
          (with_reducible refine w_eqS ?_)
          (with_reducible refine w_bl ?_)
          refine w_dec (fun e1 => ?_) (fun e1 => ?_)
          · (with_reducible refine w_ret ?_)
            (with_reducible refine w_tup ?_)
            (with_reducible refine w_cons ?_)
            ((with_reducible refine' w_var ?hv ?_); (case hv => exact rfl))
            (with_reducible refine w_cons ?_)
            (with_reducible refine w_c ?_)
            (with_reducible refine w_nil ?_)
            refine w_kTup (by show 2 ≤ sizeLine; decide) fun t8 H5 n8 s8 h8 => ?_
            exact bad (by unfold exOne; rw [pb.mpr e1]; exact if_pos (.inr rfl)) t8 H5 s8 h8
          · have en0 : nameOk en.2 = true := by
              cases z : nameOk en.2 with
              | true => rfl
              | false => exact absurd (pb.mp z) e1
            (with_reducible refine w_next ?_)
            (with_reducible refine w_dput ?_)
            (with_reducible refine w_op ?_)
            (with_reducible refine w_op ?_)
            ((with_reducible refine' w_var ?hv ?_); (case hv => exact rfl))
            ((with_reducible refine' w_var ?hv ?_); (case hv => exact rfl))
            refine w_ixL (v := .int (adN ps i)) hr4 (atI_nat (by rw [List.getElem?_map, adrs_at il]; rfl)) ?_
            ((with_reducible refine' w_var ?hv ?_); (case hv => exact rfl))
            (with_reducible refine w_I0 ?_)
            ((with_reducible refine' w_var ?hv ?_); (case hv => exact rfl))
            ((with_reducible refine' w_var ?hv ?_); (case hv => exact rfl))
            refine w_kDP hd4 (by unfold kvK; rw [List.length_map]; have z1 := kvo'.1; have z2 := po.x1; omega) (kv_put eg) fun H6 hd6 b6 => ?_
            skip
            exact ⟨fun b o hb hx => b6 b o hb (b4 b o hb hx), _, _, _, sj.trans (by unfold exOne; rw [eg, en0]; rfl), hd6, rfl⟩
      · obtain ⟨b4, kv', v4, v5, ej, hd4, rfl⟩ := h
        rw [hxv.1] at ej
        rw [ej] at st
        exact ⟨fun b o h => b4 b o (fun z => by rw [z, nd] at h; cases h) (s3 _ _ h), b4 _ _ nrd hr3, kv', _, _, _, st, hd4, rfl⟩
    · obtain ⟨s3, hr3, kv, v3, v4, v5, ek, hd3, rfl⟩ := h
      rw [ha.1] at ek
      exact ⟨s3, hr3, kv, _, _, _, ek, hd3, rfl⟩
  rintro σ' H3 ⟨s3, hr3, kv, v3, v4, v5, ek, hd3, rfl⟩
  simp only [ek] at q
  have kvo := exS_ok hok hl _ kv ek
  have kvo2 : KvOk 1000 kv := ⟨by have := kvo.1; omega, kvo.2⟩
  have kvn := exS_nd _ kv ek
  refine Evl.q_cut (M := fun σ' H' => Same H3 H' ∧ ∃ sg : Addr, H3 sg = none ∧ H' sg = some (.lst []) ∧ σ' = [some (.ref p), some (.ref r), some (.ref d), v3, v4, v5, some (.ref sg), none, none, none, none, none, none, none, none, none]) ?_ ?_
  · (with_reducible refine w_asg ?_)
    (with_reducible refine w_lst ?_)
    (with_reducible refine w_nil ?_)
    refine w_kLst (Nat.zero_le _) fun sg H4 ng s4 hsg => ?_
    (with_reducible refine w_name ?_)
    exact ⟨s4, sg, ng, hsg, rfl⟩
  rintro σ' H4 ⟨s4, sg, nsg, hsg, rfl⟩
  have nsg0 : H sg = none := fresh s3 nsg
  refine Evl.q_cut (M := fun σ' H' => Same H3 H' ∧ ∃ (W : List (List Int)) (gs : List V) (v3 v4 v5 v7 v8 v9 v10 v11 v12 v13 v14 : Option V), mtS ps kv ps.length = .ok W ∧ H' sg = some (.lst gs) ∧ Al (SegAt H') gs (segL ps W) ∧ σ' = [some (.ref p), some (.ref r), some (.ref d), v3, v4, v5, some (.ref sg), v7, v8, v9, v10, v11, v12, v13, v14, none]) ?_ ?_
  · have hp4 := s4 _ _ (s3 _ _ hp)
    (with_reducible refine w_for ?_)
    (with_reducible refine w_rng1 ?_)
    (with_reducible refine w_cons ?_)
    (with_reducible refine w_cb ?_)
    (with_reducible refine w_cons ?_)
    ((with_reducible refine' w_var ?hv ?_); (case hv => exact rfl))
    (with_reducible refine w_nil ?_)
    ((with_reducible refine' w_lenL ?hh ?_); (case hh => assumption))
    (with_reducible refine w_nil ?_)
    refine w_forR us.length (fun i σ H' => Same H3 H' ∧ ∃ (W : List (List Int)) (gs : List V) (v3 v4 v5 v7 v8 v9 v10 v11 v12 v13 v14 : Option V), mtS ps kv i = .ok W ∧ gs.length = i ∧ H' sg = some (.lst gs) ∧ (∀ (j : Nat) v g ws, gs[j]? = some v → ps[j]? = some g → W[j]? = some ws → SegAt H' v ⟨adN ps j, byt ws, g.wr, g.ex⟩) ∧ σ = [some (.ref p), some (.ref r), some (.ref d), v3, v4, v5, some (.ref sg), v7, v8, v9, v10, v11, v12, v13, v14, none]) (by omega) (by omega) ⟨s4, [], [], _, _, _, _, _, _, _, _, _, _, _, rfl, rfl, hsg, fun j v g ws h => absurd h (by simp), rfl⟩ (fun i σ H5 hi h => ?_) (fun σ H5 h => ?_)
    · obtain ⟨s5, W, gs, w3, w4, w5, w7, w8, w9, w10, w11, w12, w13, w14, em, hgi, hg5, hga, rfl⟩ := h
      have il : i < ps.length := by rw [← ha.1]; exact hi
      obtain ⟨g, hg⟩ : ∃ g, ps[i]? = some g := ⟨ps[i], List.getElem?_eq_getElem il⟩
      have hui : us[i]? = some us[i] := List.getElem?_eq_getElem hi
      have pa := ha.2 i _ g hui hg
      have s05 := s3.trans s5
      obtain ⟨t, tw, tx, tn, xv, nv, eu, ht, htw, htx, htn, hxv, hnv⟩ := pa.tk (TK.same s05)
      have po := hok g (List.mem_of_getElem? hg)
      obtain ⟨a0, a1, a2⟩ := adN_le hok i
      obtain ⟨wl, wf⟩ := mtS_ok hok kvo i W em
      have hp5 := s05 _ _ hp
      have hut : us[i]? = some (.ref t) := hui.trans (by rw [eu])
      have st : mtS ps kv (i + 1) = (match metR kv (adN ps i) g with
          | .er c => MS.er i c
          | .ok ws => .ok (W ++ [ws])) := by
        show (match mtS ps kv i with | .er k c => MS.er k c | .ok W => match ps[i]? with | none => .ok W | some p => _) = _
        rw [em, hg] <;> rfl
      have n1 := po.n1
      -- the words, the codes
      refine Evl.q_cut (M := fun σ' H' => Same H5 H' ∧ ∃ pw : Addr, H5 pw = none ∧ H' pw = some (.lst (g.ws.map V.int)) ∧ σ' = [some (.ref p), some (.ref r), some (.ref d), some (.int (i : Int)), w4, w5, some (.ref sg), some (.ref pw), w8, w9, w10, w11, w12, w13, w14, none]) ?_ ?_
      · (with_reducible refine w_asg ?_)
        (with_reducible refine w_cb ?_)
        (with_reducible refine w_cons ?_)
        (with_reducible refine w_op ?_)
        (with_reducible refine w_op ?_)
        ((with_reducible refine' w_var ?hv ?_); (case hv => exact rfl))
        ((with_reducible refine' w_var ?hv ?_); (case hv => exact rfl))
        refine w_ixL (v := .ref t) hp5 (atI_nat hut) ?_
        (with_reducible refine w_c ?_)
        ((with_reducible refine' w_ixT ?hh ?ha ?_); (case hh => assumption); (case ha => exact rfl))
        (with_reducible refine w_nil ?_)
        refine w_listT (.of htw) fun pw H6 nw s6 hw6 => ?_
        (with_reducible refine w_name ?_)
        exact ⟨s6, pw, nw, hw6, rfl⟩
      rintro σ' H6 ⟨s6, pw, npw, hw6, rfl⟩
      refine Evl.q_cut (M := fun σ' H' => Same H6 H' ∧ ∃ pc : Addr, H6 pc = none ∧ H' pc = some (.lst []) ∧ σ' = [some (.ref p), some (.ref r), some (.ref d), some (.int (i : Int)), w4, w5, some (.ref sg), some (.ref pw), some (.ref pc), w9, w10, w11, w12, w13, w14, none]) ?_ ?_
      · (with_reducible refine w_asg ?_)
        (with_reducible refine w_lst ?_)
        (with_reducible refine w_nil ?_)
        refine w_kLst (Nat.zero_le _) fun pc H7 nc s7 hc => ?_
        (with_reducible refine w_name ?_)
        exact ⟨s7, pc, nc, hc, rfl⟩
      rintro σ' H7 ⟨s7, pc, npc, hc7, rfl⟩
      have s57 := s6.trans s7
      have npc5 : H5 pc = none := fresh s6 npc
      have nwc : pw ≠ pc := fun z => by rw [← z, hw6] at npc; cases npc
      -- what is kept: all of H5
      refine Evl.q_cut (M := fun σ' H' => Same H5 H' ∧ H' pw = some (.lst ((outL kv (adN ps i) g g.ns.length).map V.int)) ∧ H' pc = some (.lst ((codesL kv (adN ps i) g g.ns.length).map V.str)) ∧ ∃ v4 v5 v9 v10 : Option V, σ' = [some (.ref p), some (.ref r), some (.ref d), some (.int (i : Int)), v4, v5, some (.ref sg), some (.ref pw), some (.ref pc), v9, v10, w11, w12, w13, w14, none]) ?_ ?_
      · have hp7 := s57 _ _ hp5
        have ht7 := s57 _ _ ht
        (with_reducible refine w_for ?_)
        (with_reducible refine w_iT ?_)
        (with_reducible refine w_op ?_)
        (with_reducible refine w_op ?_)
        ((with_reducible refine' w_var ?hv ?_); (case hv => exact rfl))
        ((with_reducible refine' w_var ?hv ?_); (case hv => exact rfl))
        refine w_ixL (v := .ref t) hp7 (atI_nat hut) ?_
        (with_reducible refine w_c ?_)
        ((with_reducible refine' w_ixT ?hh ?ha ?_); (case hh => assumption); (case ha => exact rfl))
        refine w_forT nv (fun m σ H' => Same H5 H' ∧ H' pw = some (.lst ((outL kv (adN ps i) g m).map V.int)) ∧ H' pc = some (.lst ((codesL kv (adN ps i) g m).map V.str)) ∧ ∃ v4 v5 v9 v10 : Option V, σ = [some (.ref p), some (.ref r), some (.ref d), some (.int (i : Int)), v4, v5, some (.ref sg), some (.ref pw), some (.ref pc), v9, v10, w11, w12, w13, w14, none]) (.of (s57 _ _ htn)) ⟨s57, s7 _ _ hw6, hc7, _, _, _, _, rfl⟩ (fun m σ H' _ h => .of (h.1 _ _ htn)) (fun m x σ H8 hx h => ?_) (fun σ H8 h => ?_)
        · obtain ⟨s8, hw8, hc8, u4, u5, u9, u10, rfl⟩ := h
          obtain ⟨e, he, ea⟩ := hnv.at hx
          obtain ⟨te, rfl, hte⟩ := ea.tk (TK.same s8)
          have hem := List.mem_of_getElem? he
          obtain ⟨j, w0, ej, hw0, hiw, hfo, hnl⟩ := po.n2 e hem
          have ml : m < g.ns.length := (List.getElem?_eq_some_iff.mp he).1
          have ewj : (e.1 / 4).toNat = j := by omega
          have ew : wAt g e = w0 := by unfold wAt; rw [ewj, hw0]; rfl
          have jl : j < g.ws.length := (List.getElem?_eq_some_iff.mp hw0).1
          have w2 := po.w2
          have hwf := po.wd w0 (List.mem_of_getElem? hw0)
          have hou : (outL kv (adN ps i) g m)[(e.1 / 4).toNat]? = some w0 := by rw [outL_at po he, ewj]; exact hw0
          have hat : atI ((outL kv (adN ps i) g m).map V.int) (e.1 / 4) = some (.int w0) := atI_of (by omega) (by rw [List.getElem?_map, hou]; rfl)
          have st2 := outL_step (kv := kv) (a := adN ps i) he
          have cl : (codesL kv (adN ps i) g m).length ≤ m := by unfold codesL; exact Nat.le_trans (List.length_filterMap_le _ _) (by rw [List.length_take]; exact Nat.min_le_left _ _)
          have ct : codesL kv (adN ps i) g (m + 1) = codesL kv (adN ps i) g m ++ (match codeOf kv (adN ps i) g e with | some c => [c] | none => []) := by
            unfold codesL
            rw [take_more he, List.filterMap_append]
            cases q8 : codeOf kv (adN ps i) g e <;> simp [List.filterMap, q8]
          have keepC : ∀ H9, But pc H8 H9 → Same H5 H9 := fun H9 b x o h => b x o (fun z => by rw [z, npc5] at h; cases h) (s8 _ _ h)
          have hd8 := s8 _ _ (s5 _ _ hd3)
          have hr8 := s8 _ _ (s5 _ _ hr3)
          ((with_reducible refine' w_gTup ?hh ?hn ?_); (case hh => assumption); (case hn => exact rfl))
          (with_reducible refine w_gCons ?_)
          (with_reducible refine w_name ?_)
          (with_reducible refine w_gCons ?_)
          (with_reducible refine w_name ?_)
          (with_reducible refine w_gCons ?_)
          (with_reducible refine w_name ?_)
          (with_reducible refine w_gNil ?_)
          (with_reducible refine w_ifS ?_)
          (with_reducible refine w_B ?_)
          (with_reducible refine w_dnotin ?_)
          ((with_reducible refine' w_var ?hv ?_); (case hv => exact rfl))
          ((with_reducible refine' w_var ?hv ?_); (case hv => exact rfl))
          refine ⟨d, _, rfl, kv_get hd8 e.2.2, ?_⟩
          cases eg : lk kv e.2.2 with
          | none =>
            have en : needB kv e = false := by unfold needB; rw [eg]; rfl
            have ec : codeOf kv (adN ps i) g e = some "need" := code_need.mpr en
            simp only [Option.map_none, Option.isSome_none]
            (with_reducible refine w_bl ?_)
            (with_reducible refine w_nF ?_)
            (with_reducible refine w_drop ?_)
            (with_reducible refine w_bm ?_)
            ((with_reducible refine' w_var ?hv ?_); (case hv => exact rfl))
            ((with_reducible refine' w_tyL ?hh ?_); (case hh => assumption))
            (with_reducible refine w_cons ?_)
            (with_reducible refine w_c ?_)
            (with_reducible refine w_nil ?_)
            refine w_append hc8 (by rw [List.length_map]; exact small1000 (by omega)) fun H9 hc9 b9 => ?_
            skip
            refine ⟨keepC H9 b9, ?_, by rw [hc9, ct, ec, List.map_append]; rfl, _, _, _, _, rfl⟩
            rw [st2]
            unfold setL
            rw [en, if_neg (by decide)]
            exact b9 _ _ nwc hw8
          | some av =>
            have en : needB kv e = true := by unfold needB; rw [eg]; rfl
            have hak := kvo2.lk eg
            have efil : filN kv (adN ps i) g e = fil e.2.1 w0 (adN ps i + e.1) av := by unfold filN; rw [ew, eg]; rfl
            simp only [Option.map_some, Option.isSome_some]
            (with_reducible refine w_bl ?_)
            (with_reducible refine w_nT ?_)
            (with_reducible refine w_seq ?_)
            (with_reducible refine w_asg ?_)
            (with_reducible refine w_call ?_)
            (with_reducible refine w_cons ?_)
            (with_reducible refine w_op ?_)
            ((with_reducible refine' w_var ?hv ?_); (case hv => exact rfl))
            (with_reducible refine w_op ?_)
            ((with_reducible refine' w_var ?hv ?_); (case hv => exact rfl))
            (with_reducible refine w_c ?_)
            ((with_reducible refine w_I ?hc ?_); (case hc => walk_at "side"))
            refine w_ixL hw8 hat ?_
            (with_reducible refine w_cons ?_)
            ((with_reducible refine' w_var ?hv ?_); (case hv => exact rfl))
            (with_reducible refine w_cons ?_)
            (with_reducible refine w_op ?_)
            (with_reducible refine w_op ?_)
            ((with_reducible refine' w_var ?hv ?_); (case hv => exact rfl))
            ((with_reducible refine' w_var ?hv ?_); (case hv => exact rfl))
            refine w_ixL (v := .int (adN ps i)) hr8 (atI_nat (by rw [List.getElem?_map, adrs_at il]; rfl)) ?_
            ((with_reducible refine' w_var ?hv ?_); (case hv => exact rfl))
            (with_reducible refine w_I0 ?_)
            (with_reducible refine w_cons ?_)
            (with_reducible refine w_dget ?_)
            ((with_reducible refine' w_var ?hv ?_); (case hv => exact rfl))
            ((with_reducible refine' w_var ?hv ?_); (case hv => exact rfl))
            refine w_kDG (v := .int av) hd8 (by rw [valKV, eg]; rfl) ?_
            (with_reducible refine w_nil ?_)
            refine ⟨e.2.1, w0, adN ps i + e.1, av, rfl, hfo, hwf.1, hwf.2, by omega, by omega, hak.1, by omega, by omega, fun H9 s9 => ?_⟩
            (with_reducible refine w_name ?_)
            (with_reducible refine w_ifS ?_)
            (with_reducible refine w_test ?_)
            (with_reducible refine w_op ?_)
            ((with_reducible refine' w_var ?hv ?_); (case hv => exact rfl))
            (with_reducible refine w_lst ?_)
            (with_reducible refine w_cons ?_)
            (with_reducible refine w_c ?_)
            (with_reducible refine w_cons ?_)
            (with_reducible refine w_c ?_)
            (with_reducible refine w_nil ?_)
            refine w_kLst (by show 2 ≤ sizeLine; decide) fun l10 H10 n10 s10 h10 => ?_
            have h10' : H10 l10 = some (.lst (([("form" : Str), ("range" : Str)] : List Str).map V.str)) := h10
            have s8A := s9.trans s10
            have hc10 := s8A _ _ hc8
            have hw10 := s8A _ _ hw8
            have keepC2 : ∀ H11, But pc H10 H11 → Same H5 H11 := fun H11 b x o h => b x o (fun z => by rw [z, npc5] at h; cases h) (s8A _ _ (s8 _ _ h))
            have bad : ∀ c : Str, (filV (fil e.2.1 w0 (adN ps i + e.1) av) = .str c) → codeOf kv (adN ps i) g e = some c → setN kv (adN ps i) g (outL kv (adN ps i) g m) e = outL kv (adN ps i) g m → ∀ H11, H11 pc = some (.lst ((codesL kv (adN ps i) g m).map V.str ++ [.str c])) → But pc H10 H11 → Same H5 H11 ∧ H11 pw = some (.lst ((outL kv (adN ps i) g (m + 1)).map V.int)) ∧ H11 pc = some (.lst ((codesL kv (adN ps i) g (m + 1)).map V.str)) := fun c e1 e2 e3 H11 h11 b11 => by
              refine ⟨keepC2 H11 b11, ?_, by rw [h11, ct, e2, List.map_append]; rfl⟩
              rw [st2]
              unfold setL
              rw [en, if_pos rfl, e3]
              exact b11 _ _ nwc hw10
            cases ef : fil e.2.1 w0 (adN ps i + e.1) av with
            | form =>
              have e2 : codeOf kv (adN ps i) g e = some "form" := by unfold codeOf; rw [en, if_neg (by decide), efil, ef] <;> rfl
              have e3 : setN kv (adN ps i) g (outL kv (adN ps i) g m) e = outL kv (adN ps i) g m := by unfold setN; rw [efil, ef]; rfl
              simp only [filV]
              refine w_inLs (.of h10') ?_
              rw [decide_eq_true (by decide +kernel)]
              (with_reducible refine w_bl ?_)
              (with_reducible refine w_itT ?_)
              (with_reducible refine w_drop ?_)
              (with_reducible refine w_bm ?_)
              ((with_reducible refine' w_var ?hv ?_); (case hv => exact rfl))
              ((with_reducible refine' w_tyL ?hh ?_); (case hh => assumption))
              (with_reducible refine w_cons ?_)
              ((with_reducible refine' w_var ?hv ?_); (case hv => exact rfl))
              (with_reducible refine w_nil ?_)
              refine w_append hc10 (by rw [List.length_map]; exact small1000 (by omega)) fun H11 hc11 b11 => ?_
              skip
              obtain ⟨z1, z2, z3⟩ := bad "form" (by rw [ef]; rfl) e2 e3 H11 hc11 b11
              exact ⟨z1, z2, z3, _, _, _, _, rfl⟩
            | range =>
              have e2 : codeOf kv (adN ps i) g e = some "range" := by unfold codeOf; rw [en, if_neg (by decide), efil, ef] <;> rfl
              have e3 : setN kv (adN ps i) g (outL kv (adN ps i) g m) e = outL kv (adN ps i) g m := by unfold setN; rw [efil, ef]; rfl
              simp only [filV]
              refine w_inLs (.of h10') ?_
              rw [decide_eq_true (by decide +kernel)]
              (with_reducible refine w_bl ?_)
              (with_reducible refine w_itT ?_)
              (with_reducible refine w_drop ?_)
              (with_reducible refine w_bm ?_)
              ((with_reducible refine' w_var ?hv ?_); (case hv => exact rfl))
              ((with_reducible refine' w_tyL ?hh ?_); (case hh => assumption))
              (with_reducible refine w_cons ?_)
              ((with_reducible refine' w_var ?hv ?_); (case hv => exact rfl))
              (with_reducible refine w_nil ?_)
              refine w_append hc10 (by rw [List.length_map]; exact small1000 (by omega)) fun H11 hc11 b11 => ?_
              skip
              obtain ⟨z1, z2, z3⟩ := bad "range" (by rw [ef]; rfl) e2 e3 H11 hc11 b11
              exact ⟨z1, z2, z3, _, _, _, _, rfl⟩
            | ok nx =>
              have e2 : codeOf kv (adN ps i) g e = none := by unfold codeOf; rw [en, if_neg (by decide), efil, ef] <;> rfl
              simp only [filV]
              refine ⟨l10, _, rfl, .inl (.of h10), rfl, rfl, ?_⟩
              rw [if_neg (by decide), show inV (.int nx) [.str "form", .str "range"] = false from rfl]
              (with_reducible refine w_bl ?_)
              (with_reducible refine w_itF ?_)
              (with_reducible refine w_asg ?_)
              ((with_reducible refine' w_var ?hv ?_); (case hv => exact rfl))
              (with_reducible refine w_sub ?_)
              ((with_reducible refine' w_var ?hv ?_); (case hv => exact rfl))
              (with_reducible refine w_op ?_)
              ((with_reducible refine' w_var ?hv ?_); (case hv => exact rfl))
              (with_reducible refine w_c ?_)
              ((with_reducible refine w_I ?hc ?_); (case hc => walk_at "side"))
              have hix : ixN ((outL kv (adN ps i) g m).map V.int).length (e.1 / 4) = some (e.1 / 4).toNat := by
                have : (e.1 / 4) = ((j : Nat) : Int) := by omega
                rw [this]
                exact ixN_lit (by rw [List.length_map, outL_len]; exact jl)
              refine w_setL hw10 hix fun H11 hw11 b11 => ?_
              skip
              refine ⟨fun x o h => b11 x o (fun z => by rw [z, npw] at h; cases h) (s8A _ _ (s8 _ _ h)), ?_, ?_, _, _, _, _, rfl⟩
              · rw [hw11, st2]
                unfold setL setN
                rw [en, if_pos rfl, efil, ef]
                show some (HO.lst _) = some (HO.lst (List.map V.int (List.set _ _ _)))
                rw [List.map_set]
              · rw [ct, e2, List.append_nil]
                exact b11 _ _ nwc.symm hc10
        · obtain ⟨s8, hw8, hc8, u4, u5, u9, u10, rfl⟩ := h
          rw [hnv.1] at hw8 hc8
          exact ⟨s8, hw8, hc8, _, _, _, _, rfl⟩
      rintro σ' H8 ⟨s8, hw8, hc8, u4, u5, u9, u10, rfl⟩
      have mc := met_codes (kv := kv) (a := adN ps i) (p := g) (C := codesL kv (adN ps i) g g.ns.length) rfl
      generalize hCC : codesL kv (adN ps i) g g.ns.length = C at mc hc8
      have sT := s05.trans s8
      refine Evl.q_cut (M := fun σ' H' => Same H8 H' ∧ (∀ c ∈ cods, c ∉ C) ∧ ∃ v11 : Option V, σ' = [some (.ref p), some (.ref r), some (.ref d), some (.int (i : Int)), u4, u5, some (.ref sg), some (.ref pw), some (.ref pc), u9, u10, v11, w12, w13, w14, none]) ?_ ?_
      · (with_reducible refine w_for ?_)
        (with_reducible refine w_iL ?_)
        (with_reducible refine w_lst ?_)
        (with_reducible refine w_cons ?_)
        (with_reducible refine w_c ?_)
        (with_reducible refine w_cons ?_)
        (with_reducible refine w_c ?_)
        (with_reducible refine w_cons ?_)
        (with_reducible refine w_c ?_)
        (with_reducible refine w_nil ?_)
        refine w_kLst (by show 3 ≤ sizeLine; decide) fun lc H9 nlc s9 hlc => ?_
        have hlc' : H9 lc = some (.lst (cods.map V.str)) := hlc
        refine w_forL (cods.map V.str) (fun m σ H' => Same H9 H' ∧ (∀ j c, j < m → cods[j]? = some c → c ∉ C) ∧ ∃ v11 : Option V, σ = [some (.ref p), some (.ref r), some (.ref d), some (.int (i : Int)), u4, u5, some (.ref sg), some (.ref pw), some (.ref pc), u9, u10, v11, w12, w13, w14, none]) (.of hlc') ⟨Same.refl _, fun j c h => absurd h (Nat.not_lt_zero _), _, rfl⟩ (fun m σ H' _ h => .of (h.1 _ _ hlc')) (fun m x σ H10 hx h => ?_) (fun σ H10 h => ?_)
        · obtain ⟨s10, hno, v11, rfl⟩ := h
          obtain ⟨c, hcm, rfl⟩ : ∃ c, cods[m]? = some c ∧ x = .str c := by
            rw [List.getElem?_map] at hx
            obtain ⟨o, h1, h2⟩ := Option.map_eq_some_iff.mp hx
            exact ⟨o, h1, h2.symm⟩
          have hc10 := s10 _ _ (s9 _ _ hc8)
          have m3 : m < 3 := (List.getElem?_eq_some_iff.mp hcm).1
          (with_reducible refine w_name ?_)
          (with_reducible refine w_ifS ?_)
          (with_reducible refine w_test ?_)
          (with_reducible refine w_op ?_)
          ((with_reducible refine' w_var ?hv ?_); (case hv => exact rfl))
          ((with_reducible refine' w_var ?hv ?_); (case hv => exact rfl))
          refine w_inLs (.of hc10) ?_
          (with_reducible refine w_bl ?_)
          refine w_dec (fun e1 => ?_) (fun e1 => ?_)
          · (with_reducible refine w_ret ?_)
            (with_reducible refine w_tup ?_)
            (with_reducible refine w_cons ?_)
            ((with_reducible refine' w_var ?hv ?_); (case hv => exact rfl))
            (with_reducible refine w_cons ?_)
            ((with_reducible refine' w_var ?hv ?_); (case hv => exact rfl))
            (with_reducible refine w_nil ?_)
            refine w_kTup (by show 2 ≤ sizeLine; decide) fun t8 H11 n8 s11 h8 => ?_
            have em2 : metR kv (adN ps i) g = .er c := by
              match m, m3 with
              | 0, _ => cases hcm; exact mc.1 e1
              | 1, _ => cases hcm; exact mc.2.1 (hno 0 _ (by decide) rfl) e1
              | 2, _ => cases hcm; exact mc.2.2.1 (hno 0 _ (by decide) rfl) (hno 1 _ (by decide) rfl) e1
            rw [em2] at st
            have := q (.ref t8) H11 (sT.trans (s9.trans (s10.trans s11)))
            rw [mtS_er st _ il] at this
            exact this ⟨t8, rfl, h8⟩
          · (with_reducible refine w_next ?_)
            refine ⟨s10, fun j c' hj hj2 => ?_, _, rfl⟩
            rcases Nat.lt_succ_iff_lt_or_eq.mp hj with z | z
            · exact hno j c' z hj2
            · rw [z, hcm] at hj2; cases hj2; exact e1
        · obtain ⟨s10, hno, v11, rfl⟩ := h
          exact ⟨s9.trans s10, fun c hc => by obtain ⟨j, hj⟩ := List.getElem?_of_mem hc; exact hno j c (List.getElem?_eq_some_iff.mp hj).1 hj, _, rfl⟩
      rintro σ' H9 ⟨s9, hno, v11, rfl⟩
      have em2 := mc.2.2.2 (hno _ (by decide +kernel)) (hno _ (by decide +kernel)) (hno _ (by decide +kernel))
      rw [em2] at st
      generalize hou : outL kv (adN ps i) g g.ns.length = ow at st hw8 em2 mc
      obtain ⟨_, wf2⟩ := mtS_ok hok kvo (i + 1) _ st
      obtain ⟨ow1, ow2⟩ := wf2 ow (List.mem_append_right _ (List.mem_singleton.mpr rfl))
      have hw9 := s9 _ _ hw8
      have s59 := s8.trans s9
      refine Evl.q_cut (M := fun σ' H' => Same H9 H' ∧ ∃ pv : Addr, H9 pv = none ∧ H' pv = some (.lst []) ∧ σ' = [some (.ref p), some (.ref r), some (.ref d), some (.int (i : Int)), u4, u5, some (.ref sg), some (.ref pw), some (.ref pc), u9, u10, v11, some (.ref pv), w13, w14, none]) ?_ ?_
      · (with_reducible refine w_asg ?_)
        (with_reducible refine w_lst ?_)
        (with_reducible refine w_nil ?_)
        refine w_kLst (Nat.zero_le _) fun pv H10 nv0 s10 hv => ?_
        (with_reducible refine w_name ?_)
        exact ⟨s10, pv, nv0, hv, rfl⟩
      rintro σ' H10 ⟨s10, pv, npv, hv10, rfl⟩
      refine Evl.q_cut (M := fun σ' H' => Same H9 H' ∧ H' pv = some (.lst ((byt ow).map V.int)) ∧ ∃ v13 v14 : Option V, σ' = [some (.ref p), some (.ref r), some (.ref d), some (.int (i : Int)), u4, u5, some (.ref sg), some (.ref pw), some (.ref pc), u9, u10, v11, some (.ref pv), v13, v14, none]) ?_ ?_
      · (with_reducible refine w_for ?_)
        (with_reducible refine w_iL ?_)
        ((with_reducible refine' w_var ?hv ?_); (case hv => exact rfl))
        refine w_forL (ow.map V.int) (fun m σ H' => Same H9 H' ∧ H' pv = some (.lst ((byt (ow.take m)).map V.int)) ∧ ∃ v13 v14 : Option V, σ = [some (.ref p), some (.ref r), some (.ref d), some (.int (i : Int)), u4, u5, some (.ref sg), some (.ref pw), some (.ref pc), u9, u10, v11, some (.ref pv), v13, v14, none]) (.of (s10 _ _ hw9)) ⟨s10, hv10, _, _, rfl⟩ (fun m σ H' _ h => .of (h.1 _ _ hw9)) (fun m x σ H11 hx h => ?_) (fun σ H11 h => ?_)
        · obtain ⟨s11, hv11, x13, x14, rfl⟩ := h
          obtain ⟨n, hn, rfl⟩ := map_get hx
          have ml : m < ow.length := (List.getElem?_eq_some_iff.mp hn).1
          obtain ⟨n0, n1'⟩ := ow2 n (List.mem_of_getElem? hn)
          (with_reducible refine w_name ?_)
          (with_reducible refine w_for ?_)
          (with_reducible refine w_iL ?_)
          (with_reducible refine w_call ?_)
          (with_reducible refine w_cons ?_)
          ((with_reducible refine' w_var ?hv ?_); (case hv => exact rfl))
          (with_reducible refine w_nil ?_)
          refine ⟨n, rfl, n0, n1', fun lb H12 nlb s12 hlb => ?_⟩
          refine w_forL ((bts n).map V.int) (fun j σ H' => Same H9 H' ∧ H' lb = some (.lst ((bts n).map V.int)) ∧ H' pv = some (.lst ((byt (ow.take m) ++ (bts n).take j).map V.int)) ∧ ∃ v14 : Option V, σ = [some (.ref p), some (.ref r), some (.ref d), some (.int (i : Int)), u4, u5, some (.ref sg), some (.ref pw), some (.ref pc), u9, u10, v11, some (.ref pv), some (.int n), v14, none]) (.of hlb) ⟨s11.trans s12, hlb, by rw [List.take_zero, List.append_nil]; exact s12 _ _ hv11, _, rfl⟩ (fun j σ H' _ h => .of h.2.1) (fun j x σ H13 hx13 h => ?_) (fun σ H13 h => ?_)
          · obtain ⟨s13, hl13, hv13, y14, rfl⟩ := h
            obtain ⟨b, hb, rfl⟩ := map_get hx13
            have nlv : lb ≠ pv := fun z => by rw [z, hv11] at nlb; cases nlb
            (with_reducible refine w_name ?_)
            (with_reducible refine w_drop ?_)
            (with_reducible refine w_bm ?_)
            ((with_reducible refine' w_var ?hv ?_); (case hv => exact rfl))
            ((with_reducible refine' w_tyL ?hh ?_); (case hh => assumption))
            (with_reducible refine w_cons ?_)
            ((with_reducible refine' w_var ?hv ?_); (case hv => exact rfl))
            (with_reducible refine w_nil ?_)
            refine w_append hv13 (by rw [List.length_map, List.length_append, byt_len, List.length_take, List.length_take, bts_len]; exact Nat.lt_of_le_of_lt (show _ ≤ 70000 by omega) (by decide)) fun H14 hv14 b14 => ?_
            skip
            exact ⟨fun x o h => b14 x o (fun z => by rw [z, npv] at h; cases h) (s13 _ _ h), b14 _ _ nlv hl13, by rw [hv14, take_more hb, ← List.append_assoc, List.map_append (l₁ := byt (ow.take m) ++ (bts n).take j)]; rfl, _, rfl⟩
          · obtain ⟨s13, hl13, hv13, y14, rfl⟩ := h
            rw [List.length_map, List.take_length] at hv13
            exact ⟨s13, by rw [hv13, take_more hn, byt_snoc], _, _, rfl⟩
        · obtain ⟨s11, hv11, x13, x14, rfl⟩ := h
          rw [List.length_map, List.take_length] at hv11
          exact ⟨s11, hv11, _, _, rfl⟩
      rintro σ' H11 ⟨s11, hv11, x13, x14, rfl⟩
      have s511 := s59.trans s11
      have hp11 := s511 _ _ hp5
      have hr11 := s511 _ _ (s5 _ _ hr3)
      have ht11 := s511 _ _ ht
      have hg11 := s511 _ _ hg5
      (with_reducible refine w_drop ?_)
      (with_reducible refine w_bm ?_)
      ((with_reducible refine' w_var ?hv ?_); (case hv => exact rfl))
      ((with_reducible refine' w_tyL ?hh ?_); (case hh => assumption))
      (with_reducible refine w_cons ?_)
      (with_reducible refine w_tup ?_)
      (with_reducible refine w_cons ?_)
      (with_reducible refine w_op ?_)
      ((with_reducible refine' w_var ?hv ?_); (case hv => exact rfl))
      ((with_reducible refine' w_var ?hv ?_); (case hv => exact rfl))
      refine w_ixL (v := .int (adN ps i)) hr11 (atI_nat (by rw [List.getElem?_map, adrs_at il]; rfl)) ?_
      (with_reducible refine w_cons ?_)
      (with_reducible refine w_cb ?_)
      (with_reducible refine w_cons ?_)
      ((with_reducible refine' w_var ?hv ?_); (case hv => exact rfl))
      (with_reducible refine w_nil ?_)
      refine w_tupL (.of hv11) fun tv H12 ntv s12 htv => ?_
      have hp12 := s12 _ _ hp11
      have ht12 := s12 _ _ ht11
      (with_reducible refine w_cons ?_)
      (with_reducible refine w_op ?_)
      (with_reducible refine w_op ?_)
      ((with_reducible refine' w_var ?hv ?_); (case hv => exact rfl))
      ((with_reducible refine' w_var ?hv ?_); (case hv => exact rfl))
      refine w_ixL (v := .ref t) hp12 (atI_nat hut) ?_
      (with_reducible refine w_c ?_)
      ((with_reducible refine' w_ixT ?hh ?ha ?_); (case hh => assumption); (case ha => exact rfl))
      (with_reducible refine w_cons ?_)
      (with_reducible refine w_op ?_)
      (with_reducible refine w_op ?_)
      ((with_reducible refine' w_var ?hv ?_); (case hv => exact rfl))
      ((with_reducible refine' w_var ?hv ?_); (case hv => exact rfl))
      refine w_ixL (v := .ref t) hp12 (atI_nat hut) ?_
      (with_reducible refine w_c ?_)
      ((with_reducible refine' w_ixT ?hh ?ha ?_); (case hh => assumption); (case ha => exact rfl))
      (with_reducible refine w_nil ?_)
      refine w_kTup (by show 4 ≤ sizeLine; decide) fun t13 H13 n13 s13 h13 => ?_
      have s513 := s511.trans (s12.trans s13)
      have hg13 := s513 _ _ hg5
      (with_reducible refine w_nil ?_)
      refine w_append hg13 (by rw [hgi]; exact small1000 (by omega)) fun H14 hg14 b14 => ?_
      skip
      have tk14 := TK.lst b14 hg13
      refine ⟨fun x o h => b14 x o (fun z => by rw [z, nsg] at h; cases h) (s513 _ _ (s5 _ _ h)), W ++ [ow], gs ++ [.ref t13], _, _, _, _, _, _, _, _, _, _, _, st, by rw [List.length_append, hgi]; rfl, hg14, fun j v g' ws' h1 h2 h3 => ?_, rfl⟩
      by_cases hj : j < gs.length
      · rw [List.getElem?_append_left hj] at h1
        rw [List.getElem?_append_left (by rw [wl]; omega)] at h3
        exact ((hga j v g' ws' h1 h2 h3).tk (TK.same s513)).tk tk14
      · have ej : j = i := by
          have := (List.getElem?_eq_some_iff.mp h1).1
          rw [List.length_append] at this
          simp at this
          omega
        subst ej
        rw [List.getElem?_append_right (by omega), hgi, Nat.sub_self] at h1
        rw [List.getElem?_append_right (by omega), show j - W.length = 0 by omega] at h3
        cases h1
        cases h3
        rw [hg] at h2
        cases h2
        exact ⟨t13, tv, rfl, tk14 _ _ h13, tk14 _ _ (s13 _ _ htv)⟩
    · obtain ⟨s5, W, gs, w3, w4, w5, w7, w8, w9, w10, w11, w12, w13, w14, em, hgi, hg5, hga, rfl⟩ := h
      rw [ha.1] at em hgi
      obtain ⟨wl, wf⟩ := mtS_ok hok kvo _ W em
      refine ⟨s5, W, gs, _, _, _, _, _, _, _, _, _, _, _, em, hg5, ⟨by unfold segL; rw [List.length_map, List.length_range, hgi], fun j v g h1 h2 => ?_⟩, rfl⟩
      have jl : j < ps.length := by rw [← hgi]; exact (List.getElem?_eq_some_iff.mp h1).1
      have e1 : ps[j]? = some ps[j] := List.getElem?_eq_getElem jl
      have e2 : W[j]? = some W[j] := List.getElem?_eq_getElem _
      rw [segL_at e1 e2] at h2
      cases h2
      exact hga j v _ _ h1 e1 e2
  rintro σ' H5 ⟨s5, W, gs, w3, w4, w5, w7, w8, w9, w10, w11, w12, w13, w14, em, hg5, hga, rfl⟩
  simp only [em] at q
  obtain ⟨wl, wf⟩ := mtS_ok hok kvo _ W em
  have szq := size_eq hok hl1 hl (fun ws h => (wf ws h).1)
  have hd5 := s5 _ _ hd3
  have s05 := s3.trans s5
  have sgl : (segL ps W).length = ps.length := by unfold segL; rw [List.length_map, List.length_range]
  (with_reducible refine w_seq ?_)
  (with_reducible refine w_ifS ?_)
  (with_reducible refine w_B ?_)
  (with_reducible refine w_dnotin ?_)
  (with_reducible refine w_c ?_)
  ((with_reducible refine' w_var ?hv ?_); (case hv => exact rfl))
  refine ⟨d, _, rfl, kv_get hd5 "start", ?_⟩
  cases es : lk kv "start" with
  | none =>
    simp only [es] at q
    simp only [Option.map_none, Option.isSome_none]
    (with_reducible refine w_bl ?_)
    (with_reducible refine w_nF ?_)
    (with_reducible refine w_ret ?_)
    (with_reducible refine w_tup ?_)
    (with_reducible refine w_cons ?_)
    (with_reducible refine w_un ?_)
    (with_reducible refine w_c ?_)
    (with_reducible refine w_U ?_)
    (with_reducible refine w_cons ?_)
    (with_reducible refine w_c ?_)
    (with_reducible refine w_nil ?_)
    refine w_kTup (by show 2 ≤ sizeLine; decide) fun t8 H6 n8 s8 h8 => ?_
    exact q (.ref t8) H6 (s05.trans s8) ⟨t8, rfl, h8⟩
  | some sv =>
    simp only [es] at q
    simp only [Option.map_some, Option.isSome_some]
    (with_reducible refine w_bl ?_)
    (with_reducible refine w_nT ?_)
    (with_reducible refine w_next ?_)
    (with_reducible refine w_seq ?_)
    (with_reducible refine w_ifS ?_)
    (with_reducible refine w_test ?_)
    (with_reducible refine w_op ?_)
    (with_reducible refine w_cb ?_)
    (with_reducible refine w_cons ?_)
    (with_reducible refine w_lc ?_)
    (with_reducible refine w_iL ?_)
    ((with_reducible refine' w_var ?hv ?_); (case hv => exact rfl))
    refine w_lcL gs (fun D i H' => LcAt H5 (((segL ps W).map gLen).map V.int) D i H') (.of hg5) LcAt.start (fun D i H' _ h => .of (h.2.1 _ _ hg5)) (fun D i x H' hx h => ?_) (fun D H6 nD h => ?_)
    · obtain ⟨g, hg, sg'⟩ := hga.at hx
      obtain ⟨t, tv, rfl, ht, htv⟩ := sg'.tk (TK.same h.2.1)
      (with_reducible refine w_name ?_)
      refine ⟨rfl, ?_⟩
      (with_reducible refine w_yes ?_)
      (with_reducible refine w_itT ?_)
      (with_reducible refine w_cb ?_)
      (with_reducible refine w_cons ?_)
      (with_reducible refine w_op ?_)
      ((with_reducible refine' w_var ?hv ?_); (case hv => exact rfl))
      (with_reducible refine w_c ?_)
      ((with_reducible refine' w_ixT ?hh ?ha ?_); (case hh => assumption); (case ha => exact rfl))
      (with_reducible refine w_nil ?_)
      refine w_lenTs (.of htv) ?_
      rw [List.length_map]
      exact h.fin (y := .int (g.vs.length : Int)) (by rw [List.getElem?_map, List.getElem?_map, hg]; rfl) (by rw [List.length_map, List.length_map, sgl]; exact small1000 (by omega)) (Same.refl _)
    obtain ⟨s6, hD6⟩ := h.all (by rw [hga.1]; simp)
    (with_reducible refine w_nil ?_)
    refine w_sum ((segL ps W).map gLen) (.of hD6) ?_
    (with_reducible refine w_c ?_)
    (with_reducible refine w_I0 ?_)
    (with_reducible refine w_bl ?_)
    refine w_dec (fun e1 => ?_) (fun e1 => ?_)
    · have ez : sizeF (segL ps W) = true := by rw [szq, decide_eq_true e1]
      simp only [ez] at q
      (with_reducible refine w_ret ?_)
      (with_reducible refine w_tup ?_)
      (with_reducible refine w_cons ?_)
      (with_reducible refine w_un ?_)
      (with_reducible refine w_c ?_)
      (with_reducible refine w_U ?_)
      (with_reducible refine w_cons ?_)
      (with_reducible refine w_c ?_)
      (with_reducible refine w_nil ?_)
      refine w_kTup (by show 2 ≤ sizeLine; decide) fun t8 H7 n8 s8 h8 => ?_
      exact q (.ref t8) H7 ((s05.trans s6).trans s8) ⟨t8, rfl, h8⟩
    · have ez : sizeF (segL ps W) = false := by rw [szq, decide_eq_false e1]
      simp only [ez] at q
      have hd6 := s6 _ _ hd5
      have hg6 := s6 _ _ hg5
      (with_reducible refine w_next ?_)
      (with_reducible refine w_ret ?_)
      (with_reducible refine w_tup ?_)
      (with_reducible refine w_cons ?_)
      (with_reducible refine w_cb ?_)
      (with_reducible refine w_cons ?_)
      ((with_reducible refine' w_var ?hv ?_); (case hv => exact rfl))
      (with_reducible refine w_nil ?_)
      refine w_tupL (.of hg6) fun tg H7 ng s7 htg => ?_
      (with_reducible refine w_cons ?_)
      (with_reducible refine w_dget ?_)
      ((with_reducible refine' w_var ?hv ?_); (case hv => exact rfl))
      (with_reducible refine w_c ?_)
      have hd7 := s7 _ _ hd6
      refine w_kDG (v := .int sv) hd7 (by rw [valKV, es]; rfl) ?_
      (with_reducible refine w_cons ?_)
      (with_reducible refine w_cb ?_)
      (with_reducible refine w_cons ?_)
      (with_reducible refine w_cb ?_)
      (with_reducible refine w_cons ?_)
      refine w_lock d (kvK kv) hd7 fun od => ?_
      have fz : (upd H7 d (.frz od (.dK (kvK kv)))) d = some (.frz od (.dK (kvK kv))) := upd_same
      have back : ∀ H', (∀ b o, b ≠ d → H7 b = some o → H' b = some o) → Same H7 (upd H' d (.dK (kvK kv))) := fun H' h b o hb => by
        by_cases e : b = d
        · subst e
          rw [hd7] at hb
          rw [upd_same]
          exact hb
        · rw [upd_ne e]
          exact h b o e hb
      (with_reducible refine w_lc ?_)
      (with_reducible refine w_keys ?_)
      ((with_reducible refine' w_var ?hv ?_); (case hv => exact rfl))
      refine w_lcK (kvK kv) (fun D2 i H' => D2 ≠ d ∧ H7 D2 = none ∧ (∀ b o, b ≠ d → H7 b = some o → H' b = some o) ∧ H' d = some (.frz od (.dK (kvK kv))) ∧ ∃ ys : List V, ys.length = i ∧ H' D2 = some (.lst ys) ∧ Al (SymAt H') ys ((kv.map fun e => (e.2, e.1)).take i)) fz (fun D2 nD => ?_) (fun D2 i H' h => h.2.2.2.1) (fun D2 i k v H8 hkv h => ?_) (fun D2 H8 nD h => ?_)
      · have ne : D2 ≠ d := fun z => by rw [z, upd_same] at nD; cases nD
        have nD4 : H7 D2 = none := by rw [upd_ne ne] at nD; exact nD
        exact ⟨ne, nD4, fun b o hb h => by rw [upd_ne (ne_of_none h nD4), upd_ne hb]; exact h, by rw [upd_ne ne.symm]; exact upd_same, [], rfl, upd_same, Al.nil⟩
      · obtain ⟨ne, nD4, k5, f5, ys, hyi, hD2, hya⟩ := h
        have hke : ∃ e, kv[i]? = some e ∧ k = kS e.1 ∧ v = .int e.2 := by
          unfold kvK at hkv
          rw [List.getElem?_map] at hkv
          obtain ⟨e, he, e2⟩ := Option.map_eq_some_iff.mp hkv
          cases e2
          exact ⟨e, he, rfl, rfl⟩
        obtain ⟨e, he, rfl, rfl⟩ := hke
        have il : i < kv.length := (List.getElem?_eq_some_iff.mp he).1
        have kl := kvo2.1
        have hlk := lk_mem kvn e (List.mem_of_getElem? he)
        show gName _ (.str e.1) _ _ _
        (with_reducible refine w_name ?_)
        refine ⟨rfl, ?_⟩
        (with_reducible refine w_yes ?_)
        (with_reducible refine w_itT ?_)
        (with_reducible refine w_tup ?_)
        (with_reducible refine w_cons ?_)
        (with_reducible refine w_dget ?_)
        ((with_reducible refine' w_var ?hv ?_); (case hv => exact rfl))
        ((with_reducible refine' w_var ?hv ?_); (case hv => exact rfl))
        refine w_kDGf (v := .int e.2) f5 (by rw [valKV, hlk]; rfl) ?_
        (with_reducible refine w_cons ?_)
        ((with_reducible refine' w_var ?hv ?_); (case hv => exact rfl))
        (with_reducible refine w_nil ?_)
        refine w_kTup (by show 2 ≤ sizeLine; decide) fun t8 H9 n8 s8 ht8 => ?_
        have hD8 := s8 _ _ hD2
        have f8 := s8 _ _ f5
        refine ⟨ys, hD8, by rw [hyi]; exact small1000 (by omega), ne, nD4, fun b o hb h => ?_, by rw [upd_ne ne.symm]; exact f8, ys ++ [.ref t8], by rw [List.length_append, hyi]; rfl, upd_same, ?_⟩
        · rw [upd_ne (ne_of_none h nD4)]
          exact s8 _ _ (k5 b o hb h)
        · have tk8 : TK H9 (upd H9 D2 (.lst (ys ++ [.ref t8]))) := fun a xs z => by rw [upd_ne (ne_of z hD8 (by intro y; cases y))]; exact z
          have he' : (kv.map fun e => (e.2, e.1))[i]? = some (e.2, e.1) := by rw [List.getElem?_map, he]; rfl
          rw [take_more he']
          exact Al.snoc (hya.imp fun v g h => (h.tk (TK.same s8)).tk tk8) ⟨t8, rfl, tk8 _ _ ht8⟩
      · obtain ⟨ne, nD4, k5, f5, ys, hyi, hD2, hya⟩ := h
        refine ⟨f5, ?_⟩
        have tk5 : TK H8 (upd H8 d (.dK (kvK kv))) := fun a xs z => by rw [upd_ne (ne_of z f5 (by intro y; cases y))]; exact z
        have sB := back H8 k5
        have hD2' : (upd H8 d (.dK (kvK kv))) D2 = some (.lst ys) := by rw [upd_ne ne]; exact hD2
        have e : (kv.map fun e => (e.2, e.1)).take (kvK kv).length = kv.map fun e => (e.2, e.1) := List.take_of_length_le (by unfold kvK; rw [List.length_map, List.length_map]; exact Nat.le_refl _)
        rw [e] at hya
        have hyb := hya.imp fun v g h => h.tk tk5
        generalize upd H8 d (.dK (kvK kv)) = H9 at *
        (with_reducible refine w_nil ?_)
        refine Co.w_sortedP (.of hD2') (fun x hx => ?_) fun zs q2 H10 hperm hpw nq s10 hq2 => ?_
        · obtain ⟨i, hi⟩ := List.getElem?_of_mem hx
          obtain ⟨g, _, t, e1, e2⟩ := hyb.at hi
          exact ⟨t, _, _, e1, e2⟩
        obtain ⟨l, la, lo⟩ := sy_of hyb hperm hpw
        (with_reducible refine w_nil ?_)
        refine w_tupL (.of hq2) fun ty H11 ny s11 hty => ?_
        (with_reducible refine w_nil ?_)
        refine w_kTup (by show 3 ≤ sizeLine; decide) fun ti H12 ni s12 hti => ?_
        have sF := (sB.trans s10).trans (s11.trans s12)
        have s012 := (s05.trans (s6.trans s7)).trans sF
        refine q (.ref ti) H12 s012 ⟨ti, l, rfl, ⟨tg, ty, gs, zs, hti, sF _ _ htg, s12 _ _ hty, hga.imp (fun v g h => h.tk (TK.same ((s6.trans s7).trans sF))), la.imp fun v g h => h.tk (TK.same (s10.trans (s11.trans s12)))⟩, lo⟩
end
end K08


open PySem.W
namespace K08
open TL RZ
theorem sc_law : FnScope ["script", "draw", "names", "parts", "before", "due", "answer", "error", "k"] ["script"] (defScope s_law) := ⟨rfl, rfl, rfl, by decide +kernel, rfl, by decide +kernel, by decide +kernel⟩
theorem w_fldL {C : Addr} {a : Addr} {cls : Value} {d : Option Addr} {f : Str} {te : TE} {σ : L2.St} {H : Hp} {Q : VK} (q : te σ H fun x H1 => x = .ref a ∧ cls = .ref C ∧ ∃ (dd : Addr) (n : Int) (c : Str) (v : V), d = some dd ∧ H1 dd = some (LkX n c) ∧ List.lookup f [(("code" : Str), V.str c), (("part" : Str), V.int n)] = some v ∧ Q v H1) : tFldL C a cls d f te σ H Q := q
local macro_rules | `(tactic| walk_at "w1") => `(tactic| first
  | (with_reducible refine w_callS ?_)
  | (with_reducible refine w_fldL ?_)
  | (with_reducible refine w_isS ?_))
/-! the data of parts and of an image -/
def segD (g : Seg) : PyData := .tuple [.int g.ad, .tuple (g.vs.map .int), .bool g.wr, .bool g.ex]
def symD (p : Int × Str) : PyData := .tuple [.int p.1, .str p.2]
def ndD (p : Int × Str × Str) : PyData := .tuple [.int p.1, .str p.2.1, .str p.2.2]
def imD (im : Im) : PyData := .tuple [.tuple (im.sg.map segD), .int im.en, .tuple (im.sy.map symD)]
def partD (p : Part) : PyData := .tuple [.str p.nm, .tuple (p.ws.map .int), .bool p.wr, .bool p.ex, .tuple (p.xs.map symD), .tuple (p.ns.map ndD)]
theorem Al.dp {α : Type} {R : V → α → Prop} {K : PySem.W.Frag} {H : Hp} {D : α → PyData} (f : ∀ v g, R v g → Dp K H v (D g)) : ∀ {vs : List V} {l : List α}, Al R vs l → DpAll K H vs (l.map D)
  | [], [], _ => .nil
  | [], _ :: _, h => by cases h.1
  | _ :: _, [], h => by cases h.1
  | v :: vs, g :: l, h => .cons (f v g (h.2 0 v g rfl rfl)) (Al.dp f ⟨Nat.succ.inj h.1, fun i x y a b => h.2 (i + 1) x y a b⟩)
theorem SegAt.dp {K : PySem.W.Frag} {H : Hp} {v : V} {g : Seg} (h : SegAt H v g) : Dp K H v (segD g) := by
  obtain ⟨t, tv, rfl, a, b⟩ := h
  exact .tup (.of a) (.cons (.int _) (.cons (.tup (.of b) (dpInts _)) (.cons (.bl _) (.cons (.bl _) .nil))))
theorem SymAt.dp {K : PySem.W.Frag} {H : Hp} {v : V} {p : Int × Str} (h : SymAt H v p) : Dp K H v (symD p) := by
  obtain ⟨t, rfl, a⟩ := h
  exact .tup (.of a) (.cons (.int _) (.cons (.str _) .nil))
theorem NdAt.dp {K : PySem.W.Frag} {H : Hp} {v : V} {p : Int × Str × Str} (h : NdAt H v p) : Dp K H v (ndD p) := by
  obtain ⟨t, rfl, a⟩ := h
  exact .tup (.of a) (.cons (.int _) (.cons (.str _) (.cons (.str _) .nil)))
theorem ImAt.tk {H H' : Hp} {t : Addr} {im : Im} (h : ImAt H t im) (s : TK H H') : ImAt H' t im := by
  obtain ⟨ts, ty, vs, ws, a, b, c, d, e⟩ := h
  exact ⟨ts, ty, vs, ws, s _ _ a, s _ _ b, s _ _ c, d.imp fun v g h => h.tk s, e.imp fun v g h => h.tk s⟩
theorem ImAt.dp {K : PySem.W.Frag} {H : Hp} {t : Addr} {im : Im} (h : ImAt H t im) : Dp K H (.ref t) (imD im) := by
  obtain ⟨ts, ty, vs, ws, a, b, c, d, e⟩ := h
  exact .tup (.of a) (.cons (.tup (.of b) (d.dp fun v g h => h.dp)) (.cons (.int _) (.cons (.tup (.of c) (e.dp fun v g h => h.dp)) .nil)))
theorem PartAt.dp {K : PySem.W.Frag} {H : Hp} {v : V} {p : Part} (h : PartAt H v p) : Dp K H v (partD p) := by
  obtain ⟨t, tw, tx, tn, xv, nv, rfl, a, b, c, d, x, n⟩ := h
  exact .tup (.of a) (.cons (.str _) (.cons (.tup (.of b) (dpInts _)) (.cons (.bl _) (.cons (.bl _) (.cons (.tup (.of c) (x.dp fun v g h => h.dp)) (.cons (.tup (.of d) (n.dp fun v g h => h.dp)) .nil))))))
/-! small -/
theorem SmD.zero {k : Nat} : SmD 2 k (.int 0) := by
  refine ⟨by simp [PyData.canLay0], ?_, ?_, ?_, by simp [PyData.depth]⟩
  · simp only [PyData.intsShort, decide_eq_true_eq]; exact PyData.shown_int_le (by decide)
  · simp only [PyData.showable, decide_eq_true_eq]; decide
  · simp [PyData.weight]
theorem sm_ws {k : Nat} (z : Nat) : ∀ b : List Int, (∀ x ∈ b, x.natAbs < 1000000000000) → SmAll (41 * b.length + 2 * z) k ((b ++ List.replicate z 0).map .int)
  | [], _ => by
    have := SmAll.all (n := 2) (k := k) (ds := (List.replicate z (0 : Int)).map .int) (fun d hd => by
      obtain ⟨x, hx, rfl⟩ := List.mem_map.mp hd
      rw [List.eq_of_mem_replicate hx]
      exact SmD.zero)
    rw [List.length_map, List.length_replicate] at this
    exact this.mono (by simp) (Nat.le_refl _)
  | x :: b, h => (SmAll.cons (SmD.int (h x (by simp))) (sm_ws z b fun y hy => h y (by simp [hy]))).mono (by simp only [List.length_cons]; omega) (Nat.le_refl _)
theorem form_sm {f : Str} (h : isForm f) : PyData.strOk f = true ∧ f.cps.size ≤ 4 := by
  rcases h with rfl | rfl | rfl | rfl <;> decide +kernel
theorem partSm {p : Part} (h : PartOk p) (s : PartSm p) : SmD 100000 4 (partD p) := by
  have a1 : SmAll 600 2 (p.xs.map symD) := by
    have := SmAll.all (n := 53) (k := 2) (ds := p.xs.map symD) (fun d hd => by
      obtain ⟨e, he, rfl⟩ := List.mem_map.mp hd
      obtain ⟨e0, e1, _⟩ := h.x2 e he
      obtain ⟨o1, o2, _⟩ := pool_ok _ (s.bad e he)
      exact ((SmAll.cons (SmD.int (k := 1) (by omega)) (SmAll.cons (SmD.str (m := 10) o1 o2) .nil)).tup).mono (by omega) (Nat.le_refl _))
    rw [List.length_map] at this
    exact this.mono (by have := h.x1; omega) (Nat.le_refl _)
  have a2 : SmAll 600 2 (p.ns.map ndD) := by
    have := SmAll.all (n := 58) (k := 2) (ds := p.ns.map ndD) (fun d hd => by
      obtain ⟨e, he, rfl⟩ := List.mem_map.mp hd
      obtain ⟨j, w, ej, hw, _, hf, _⟩ := h.n2 e he
      have hj := (List.getElem?_eq_some_iff.mp hw).1
      have w2 := h.w2
      obtain ⟨o1, o2, _⟩ := pool_ok _ (s.nd e he)
      obtain ⟨f1, f2⟩ := form_sm hf
      exact ((SmAll.cons (SmD.int (k := 1) (by omega)) (SmAll.cons (SmD.str (m := 4) f1 f2) (SmAll.cons (SmD.str (m := 10) o1 o2) .nil))).tup).mono (by omega) (Nat.le_refl _))
    rw [List.length_map] at this
    exact this.mono (by have := h.n1; omega) (Nat.le_refl _)
  have a3 : SmAll 40000 2 (p.ws.map .int) := by
    obtain ⟨b, z, e, hb, hz⟩ := s.sh
    have := sm_ws (k := 2) z b (fun x hx => by have := h.wd x (by rw [e]; exact List.mem_append_left _ hx); omega)
    rw [e]
    exact this.mono (by omega) (Nat.le_refl _)
  exact (SmAll.tup (k := 3) (.cons (SmD.str (m := 20) s.nm.1 s.nm.2) (.cons a3.tup (.cons (SmD.bool _) (.cons (SmD.bool _) (.cons a1.tup (.cons a2.tup .nil))))))).mono (by omega) (Nat.le_refl _)
/-! the errors of link -/
theorem mtS_c {ps : List Part} {kv : KV} {k : Nat} {c : Str} : ∀ n, mtS ps kv n = .er k c → c ∈ cods
  | 0, h => by cases h
  | n + 1, h => by
    have h' : (match mtS ps kv n with
      | .er k c => MS.er k c
      | .ok W => match ps[n]? with
        | none => .ok W
        | some p => match metR kv (adN ps n) p with
          | .er c => .er n c
          | .ok ws => .ok (W ++ [ws])) = .er k c := h
    cases e : mtS ps kv n with
    | er k2 c2 =>
      rw [e] at h'
      cases h'
      exact mtS_c n e
    | ok W =>
      rw [e] at h'
      cases ep : ps[n]? with
      | none => rw [ep] at h'; cases h'
      | some p =>
        rw [ep] at h'
        cases em : metR kv (adN ps n) p with
        | ok ws => simp only [em] at h'; cases h'
        | er c2 =>
          simp only [em] at h'
          cases h'
          unfold metR at em
          unfold cods
          split at em
          · cases em; simp
          · split at em
            · cases em; simp
            · split at em
              · cases em; simp
              · cases em
theorem cods_ok : ∀ c ∈ cods, PyData.strOk c = true := by decide +kernel
theorem start_ok : PyData.strOk "start" = true ∧ PyData.strOk "size" = true ∧ PyData.strOk "export" = true := by decide +kernel
theorem lnR_er {ps : List Part} {k : Int} {c : Str} (h : lnR ps = .er k c) : PyData.strOk c = true := by
  unfold lnR at h
  split at h
  · cases h; exact start_ok.2.2
  · split at h
    · rename_i e
      cases h
      exact cods_ok _ (mtS_c _ e)
    · split at h
      · cases h; exact start_ok.1
      · split at h
        · cases h; exact start_ok.2.1
        · cases h
theorem lnR_kv {ps : List Part} {sg : List Seg} {en : Int} {kv : KV} (h : lnR ps = .ok sg en kv) : exS ps ps.length = .ok kv := by
  unfold lnR at h
  split at h
  · cases h
  · rename_i kv' e
    split at h
    · cases h
    · split at h
      · cases h
      · split at h
        · cases h
        · cases h; exact e
theorem er_shaped {k : Int} {c : Str} (h : PyData.strOk c = true) : SeqAt.shaped (.tuple [.int k, .str c]) = true := by
  unfold SeqAt.shaped
  simp [PyData.canLay0, PyData.canLayAll0, PyData.depth, PyData.depthAll, h]
structure Ly (m : Nat) (d : PyData) : Prop where
  lay : d.canLay0 = true
  dp : d.depth ≤ m
theorem Ly.shaped {m : Nat} {d : PyData} (h : Ly m d) (hm : m ≤ 64) : SeqAt.shaped d = true := by
  have := h.dp
  unfold SeqAt.shaped
  rw [h.lay, Bool.true_and, decide_eq_true_eq]
  omega
theorem ly_all {m : Nat} : ∀ {ds : List PyData}, (∀ d ∈ ds, Ly m d) → PyData.canLayAll0 ds = true ∧ PyData.depthAll ds ≤ m
  | [], _ => by simp [PyData.canLayAll0, PyData.depthAll]
  | d :: ds, h => by
    obtain ⟨a, b⟩ := ly_all (ds := ds) fun e he => h e (by simp [he])
    have x := h d (by simp)
    have := x.dp
    exact ⟨by simp [PyData.canLayAll0, x.lay, a], by simp only [PyData.depthAll]; omega⟩
theorem Ly.tup {m : Nat} {ds : List PyData} (h : ∀ d ∈ ds, Ly m d) : Ly (m + 1) (.tuple ds) := by
  obtain ⟨a, b⟩ := ly_all h
  exact ⟨by simpa [PyData.canLay0] using a, by simp only [PyData.depth]; omega⟩
theorem Ly.int {m : Nat} (i : Int) : Ly m (.int i) := ⟨by simp [PyData.canLay0], by simp [PyData.depth]⟩
theorem Ly.bool {m : Nat} (b : Bool) : Ly m (.bool b) := ⟨by simp [PyData.canLay0], by simp [PyData.depth]⟩
theorem Ly.str {m : Nat} {z : Str} (h : PyData.strOk z = true) : Ly m (.str z) := ⟨by simpa [PyData.canLay0] using h, by simp [PyData.depth]⟩
theorem imLy {im : Im} (h : ∀ e ∈ im.sy, PyData.strOk e.2 = true) : Ly 4 (imD im) := by
  refine Ly.tup fun d hd => ?_
  simp only [List.mem_cons, List.not_mem_nil, or_false] at hd
  rcases hd with rfl | rfl | rfl
  · refine Ly.tup fun d hd => ?_
    obtain ⟨g, _, rfl⟩ := List.mem_map.mp hd
    refine Ly.tup fun d hd => ?_
    simp only [List.mem_cons, List.not_mem_nil, or_false] at hd
    rcases hd with rfl | rfl | rfl | rfl
    · exact .int _
    · refine Ly.tup fun d hd => ?_
      obtain ⟨x, _, rfl⟩ := List.mem_map.mp hd
      exact .int _
    · exact .bool _
    · exact .bool _
  · exact .int _
  · refine Ly.tup fun d hd => ?_
    obtain ⟨e, he, rfl⟩ := List.mem_map.mp hd
    refine Ly.tup fun d hd => ?_
    simp only [List.mem_cons, List.not_mem_nil, or_false] at hd
    rcases hd with rfl | rfl
    · exact .int _
    · exact .str (h e he)
def spLaw (K : PySem.W.Frag) : Sp := fun vs H Q _ => ∃ (a : Addr) (ns : List Int), vs = [.ref a] ∧ SqL K H a (ns.map V.int) ∧ ns.length ≤ 63 ∧ ∀ H', Q (.bl true) H'
section
variable {P : Program} {w : World} {K : PySem.W.Frag} {mg : Str → Option Value} {base : Heap}
theorem ok_law {C fI : Addr} (TX : OwnL.Txt P K mg C fI) (b_range : mg "range" = none) (b_len : mg "len" = none) (b_list : mg "list" = none) (b_repr : mg "repr" = none) (c_law_draw : Cd P w K mg base 1 "_law_draw" (spDraw K)) (c_law_take : Cd P w K mg base 1 "_law_take" spTake) (c_law_part : Cd P w K mg base 3 "_law_part" spPart) (c_law_due : Cd P w K mg base 2 "_law_due" spDue) (c_link : CdX P w K mg base 6 "link" (spLink C))
    {f : Addr} {fd : FuncData} (F : Fun K "law" "law" s_law f fd) : RunG P w K mg base f fd "script" (spLaw K) := by
  have TE := TX
  refine runG_of (k := 12) F sc_law ⟨rfl, by decide, by decide⟩ (fun cdv s H vs Q hr h => ?_)
  obtain ⟨a, ns, rfl, hS, hns, q⟩ := h
  refine ⟨_, (pss_cons (ps_set (i := 1) sc_law.nd rfl (.inr rfl) (pe_cd c_law_draw hr (by first | decide | omega) (by rfl) (pa_cons (pv 0) pa_nil)))
      (pss_cons (ps_set (i := 2) sc_law.nd rfl (.inr rfl) (pe_lst (pa_cons pe_str (pa_cons pe_str (pa_cons pe_str (pa_cons pe_str (pa_cons pe_str (pa_cons pe_str pa_nil))))))))
      (Evl.pss_cut (ps_setLc (i := 3) (own := [("k", 8)]) rfl sc_law.nd rfl rfl (sw_true rfl rfl rfl (by decide +kernel)) (pi_range1 (by rfl) b_range (pa_cons (pe_op op_add pe_int (pe_cd c_law_take hr (by first | decide | omega) (by rfl) (pa_cons (pv 1) (pa_cons pe_int pa_nil)))) pa_nil)) (blkOk_by (own := [("k", 8)]) (N := ["script", "draw", "names", "parts", "before", "due", "answer", "error", "k"]) (sc := (defScope s_law)) (by decide +kernel)) (fun _ _ _ _ _ => (pg_name (i := 8) sc_law.nd rfl (.inl rfl))) (fun _ _ _ _ _ => pts_nil) (fun _ _ _ _ _ => (pe_cd c_law_part hr (by first | decide | omega) (by rfl) (pa_cons (pv 1) (pa_cons (pv 8) (pa_cons (pv 2) pa_nil))))))
      (Evl.pss_cut (ps_set (i := 4) sc_law.nd rfl (.inl rfl) (pe_ifExp (pt_cmpR op_lt (pe_callB call_lenSQ (by rfl) b_len PySem.boot_len (pa_cons (pe_callB (call_reprD (by rfl) (hu70 hr)) (by rfl) b_repr (by decide +kernel) (pa_cons (pv 3) pa_nil)) pa_nil)) pe_int (nomark _)) (pe_callB (call_reprD (by rfl) (hu70 hr)) (by rfl) b_repr (by decide +kernel) (pa_cons (pv 3) pa_nil)) pe_str))
      (Evl.pss_cut (ps_set (i := 5) sc_law.nd rfl (.inl rfl) (pe_cd c_law_due hr (by first | decide | omega) (by rfl) (pa_cons (pv 3) pa_nil)))
      (pss_cons (ps_try_as (i := 7) (Wout := fun _ _ _ _ => False) rfl rfl sc_law.nd rfl rfl ⟨rfl, by decide, Or.inl TE.gC⟩ takes0 (fun W pn xe tk _ => (pss_one (ps_set (i := 6) sc_law.nd rfl (.inl rfl) (pe_cdXT c_link hr (by first | decide | omega) (by rfl) tk (pa_cons (pe_callTy (call_listQK (K' := K) (by rfl)) (by rfl) b_list (by decide +kernel) (pa_cons (pv 3) pa_nil)) pa_nil))))) (fun a oe cls d pn hz hf => (pss_one (ps_ret (pe_cmpR (op_eqDK (K' := K) (by rfl) hr.units) (pv 5) (pe_tup (pa_cons (pe_fldL TE.noN TE hz hf (pv 7)) (pa_cons (pe_fldL TE.noM TE hz hf (pv 7)) pa_nil))) (nomark _))))))
      (pss_one (ps_ret (pe_and (pe_cmpR (op_eqD hr.units) (pv 6) (pv 5) (nomark _)) (pe_one (pe_or (pe_cmpR op_eq (pv 4) pe_str (nomark _)) (pe_one (pe_cmpR op_eq (pe_callB (call_reprD (by rfl) (hu70 hr)) (by rfl) b_repr (by decide +kernel) (pa_cons (pv 3) pa_nil)) (pv 4) (nomark _)))))))))))))), ?_⟩
  (with_reducible refine w_seq ?_)
  (with_reducible refine w_asg ?_)
  (with_reducible refine w_call ?_)
  (with_reducible refine w_cons ?_)
  ((with_reducible refine' w_var ?hv ?_); (case hv => exact rfl))
  (with_reducible refine w_nil ?_)
  refine ⟨a, ns, rfl, hS, hns, fun d c H1 nd nc s1 hd => ?_⟩
  (with_reducible refine w_name ?_)
  (with_reducible refine w_seq ?_)
  (with_reducible refine w_asg ?_)
  (with_reducible refine w_lst ?_)
  (with_reducible refine w_cons ?_)
  (with_reducible refine w_c ?_)
  (with_reducible refine w_cons ?_)
  (with_reducible refine w_c ?_)
  (with_reducible refine w_cons ?_)
  (with_reducible refine w_c ?_)
  (with_reducible refine w_cons ?_)
  (with_reducible refine w_c ?_)
  (with_reducible refine w_cons ?_)
  (with_reducible refine w_c ?_)
  (with_reducible refine w_cons ?_)
  (with_reducible refine w_c ?_)
  (with_reducible refine w_nil ?_)
  refine w_kLst (by show 6 ≤ sizeLine; decide) fun nm H2 nnm s2 hnm => ?_
  have hd2 := hd.same s2
  have hnd : nm ≠ d := hd.ne nnm
  (with_reducible refine w_name ?_)
  refine Evl.q_cut (M := fun σ' H' => DrawC H' d c ∧ ∃ (pp : Addr) (us : List V) (ps : List Part), H' pp = some (.lst us) ∧ Al (PartAt H') us ps ∧ (∀ p ∈ ps, PartOk p) ∧ (∀ p ∈ ps, PartSm p) ∧ 1 ≤ ps.length ∧ ps.length ≤ 4 ∧ ∃ v8 : Option V, σ' = [some (.ref a), some (.ref d), some (.ref nm), some (.ref pp), none, none, none, none, v8]) ?_ ?_
  · (with_reducible refine w_asg ?_)
    (with_reducible refine w_lc ?_)
    (with_reducible refine w_rng1 ?_)
    (with_reducible refine w_cons ?_)
    (with_reducible refine w_op ?_)
    (with_reducible refine w_c ?_)
    (with_reducible refine w_call ?_)
    (with_reducible refine w_cons ?_)
    ((with_reducible refine' w_var ?hv ?_); (case hv => exact rfl))
    (with_reducible refine w_cons ?_)
    (with_reducible refine w_c ?_)
    (with_reducible refine w_nil ?_)
    refine w_take hd2 (by decide) (by decide) fun n0 H3 n00 n01 hd3 b3 => ?_
    have hnm3 : H3 nm = some (.lst (namesL.map V.str)) := b3 nm _ hnd hnm
    (with_reducible refine w_I0 ?_)
    (with_reducible refine w_nil ?_)
    refine w_lcR (1 + n0).toNat (fun D i H' => H3 D = none ∧ DrawC H' d c ∧ H' nm = some (.lst (namesL.map V.str)) ∧ ∃ (us : List V) (ps : List Part), us.length = i ∧ H' D = some (.lst us) ∧ Al (PartAt H') us ps ∧ (∀ p ∈ ps, PartOk p) ∧ (∀ p ∈ ps, PartSm p)) rfl (by omega) (fun D nD => ⟨nD, hd3.same (Same.new nD), (Same.new nD) _ _ hnm3, [], [], rfl, upd_same, Al.nil, fun p h => (by cases h), fun p h => (by cases h)⟩) (fun D i H4 hi h => ?_) (fun D H4 nD h => ?_)
    · obtain ⟨nD, hd4, hnm4, us, ps, hl, hD, ha, ho, hs⟩ := h
      have hDd : D ≠ d := hd3.ne nD
      have hDc : D ≠ c := hd3.nec nD
      have hDn : D ≠ nm := fun z => by rw [z, hnm3] at nD; cases nD
      (with_reducible refine w_name ?_)
      refine ⟨rfl, ?_⟩
      (with_reducible refine w_yes ?_)
      (with_reducible refine w_itT ?_)
      (with_reducible refine w_call ?_)
      (with_reducible refine w_cons ?_)
      ((with_reducible refine' w_var ?hv ?_); (case hv => exact rfl))
      (with_reducible refine w_cons ?_)
      ((with_reducible refine' w_var ?hv ?_); (case hv => exact rfl))
      (with_reducible refine w_cons ?_)
      ((with_reducible refine' w_var ?hv ?_); (case hv => exact rfl))
      (with_reducible refine w_nil ?_)
      refine ⟨d, c, nm, (i : Int), rfl, hd4, hnd, by omega, by omega, hnm4, fun v p H5 hd5 b5 hv hpo hps => ?_⟩
      have hD5 := b5 D _ hDd hD
      have tk5 : TK H4 H5 := by
        obtain ⟨cs, _, _, _, e, _⟩ := hd4
        exact TK.lst b5 e
      have tkU : ∀ o, TK H5 (upd H5 D (.lst o)) := fun o => TK.lst But.set hD5
      refine ⟨_, hD5, by rw [hl]; exact small1000 (by omega), nD, hd5.keep (fun o e => by rw [upd_ne hDd.symm]; exact e) (fun o e => by rw [upd_ne hDc.symm]; exact e), by rw [upd_ne hDn.symm]; exact b5 nm _ hnd hnm4, us ++ [v], ps ++ [p], by rw [List.length_append, hl]; rfl, upd_same, ?_, ?_, ?_⟩
      · exact ((ha.imp fun v g h => (h.tk tk5)).imp fun v g h => h.tk (tkU _)).snoc (hv.tk (tkU _))
      · intro x hx
        rcases List.mem_append.mp hx with h | h
        · exact ho x h
        · rw [List.mem_singleton.mp h]; exact hpo
      · intro x hx
        rcases List.mem_append.mp hx with h | h
        · exact hs x h
        · rw [List.mem_singleton.mp h]; exact hps
    · obtain ⟨nD, hd4, hnm4, us, ps, hl, hD, ha, ho, hs⟩ := h
      (with_reducible refine w_name ?_)
      have := ha.1
      exact ⟨hd4, D, us, ps, hD, ha, ho, hs, by omega, by omega, _, rfl⟩
  rintro σ' H3 ⟨hd3, pp, us, ps, hp, ha, hok, hsm, l1, l4, v8, rfl⟩
  have dp : ∀ {G : Hp}, Same H3 G → Dp K G (.ref pp) (.list (ps.map partD)) := fun s => .lst (.of (s _ _ hp)) ((ha.imp fun v g h => h.tk (TK.same s)).dp fun v g h => h.dp)
  have shw : Shw (.list (ps.map partD)) := by
    have := SmAll.all (n := 100000) (k := 4) (ds := ps.map partD) (fun d hd => by
      obtain ⟨p, hp, rfl⟩ := List.mem_map.mp hd
      exact partSm (hok p hp) (hsm p hp))
    rw [List.length_map] at this
    exact (this.lst).shown (by omega) (by omega)
  generalize hSS : PyData.shown (.list (ps.map partD)) = S at *
  refine Evl.q_cut (M := fun σ' H' => Same H3 H' ∧ ∃ b : Str, (b = "" ∨ b = S) ∧ σ' = [some (.ref a), some (.ref d), some (.ref nm), some (.ref pp), some (.str b), none, none, none, v8]) ?_ ?_
  · (with_reducible refine w_asg ?_)
    (with_reducible refine w_if ?_)
    (with_reducible refine w_test ?_)
    (with_reducible refine w_op ?_)
    (with_reducible refine w_cb ?_)
    (with_reducible refine w_cons ?_)
    (with_reducible refine w_cb ?_)
    (with_reducible refine w_cons ?_)
    ((with_reducible refine' w_var ?hv ?_); (case hv => exact rfl))
    (with_reducible refine w_nil ?_)
    refine w_repr (dp (Same.refl _)) shw ?_
    rw [hSS]
    have fit : S.length ≤ sizeLine := by rw [← hSS]; exact shw.len
    (with_reducible refine w_nil ?_)
    refine w_lenSQ fit ?_
    (with_reducible refine w_c ?_)
    (with_reducible refine w_I0 ?_)
    (with_reducible refine w_bl ?_)
    refine w_dec (fun _ => ?_) (fun _ => ?_)
    · (with_reducible refine w_cb ?_)
      (with_reducible refine w_cons ?_)
      ((with_reducible refine' w_var ?hv ?_); (case hv => exact rfl))
      (with_reducible refine w_nil ?_)
      refine w_repr (dp (Same.refl _)) shw ?_
      rw [hSS]
      (with_reducible refine w_name ?_)
      exact ⟨Same.refl _, S, .inr rfl, rfl⟩
    · (with_reducible refine w_c ?_)
      (with_reducible refine w_name ?_)
      exact ⟨Same.refl _, "", .inl rfl, rfl⟩
  rintro σ' H4 ⟨s4, b, hb, rfl⟩
  refine Evl.q_cut (M := fun σ' H' => Same H3 H' ∧ ∃ v, DueAt H' v (lnR ps) ∧ σ' = [some (.ref a), some (.ref d), some (.ref nm), some (.ref pp), some (.str b), some v, none, none, v8]) ?_ ?_
  · (with_reducible refine w_asg ?_)
    (with_reducible refine w_call ?_)
    (with_reducible refine w_cons ?_)
    ((with_reducible refine' w_var ?hv ?_); (case hv => exact rfl))
    (with_reducible refine w_nil ?_)
    refine ⟨pp, us, ps, rfl, s4 _ _ hp, ha.imp (fun v g h => h.tk (TK.same s4)), hok, hsm, l1, by omega, fun v H5 s5 hv => ?_⟩
    (with_reducible refine w_name ?_)
    exact ⟨s4.trans s5, v, hv, rfl⟩
  rintro σ' H5 ⟨s5, v, hv, rfl⟩
  (with_reducible refine w_seq ?_)
  (with_reducible refine w_asg ?_)
  (with_reducible refine w_callS ?_)
  (with_reducible refine w_cons ?_)
  (with_reducible refine w_cb ?_)
  (with_reducible refine w_cons ?_)
  ((with_reducible refine' w_var ?hv ?_); (case hv => exact rfl))
  (with_reducible refine w_nil ?_)
  refine w_listL (.of (s5 _ _ hp)) fun pl H6 npl s6 hpl => ?_
  (with_reducible refine w_nil ?_)
  have s36 := s5.trans s6
  refine ⟨pl, us, ps, rfl, hpl, ha.imp (fun v g h => h.tk (TK.same s36)), hok, by omega, fun sg en kv l hln hsy t H7 s7 hi => ?_, fun k c hln dd H7 ndd s7 hdd => ?_⟩
  · rw [hln] at hv
    obtain ⟨t2, l2, rfl, hi2, hsy2⟩ := hv
    obtain rfl := hsy.eq hsy2
    (with_reducible refine w_name ?_)
    (with_reducible refine w_ret ?_)
    (with_reducible refine w_andV ?_)
    (with_reducible refine w_op ?_)
    ((with_reducible refine' w_var ?hv ?_); (case hv => exact rfl))
    ((with_reducible refine' w_var ?hv ?_); (case hv => exact rfl))
    have hi2' : ImAt H7 t2 ⟨sg, en, l⟩ := hi2.tk (TK.same (s6.trans s7))
    have hky : ∀ e ∈ l, PyData.strOk e.2 = true := fun e he => by
      obtain ⟨e', he', rfl⟩ := List.mem_map.mp (hsy.1.mem_iff.mp he)
      exact ((exS_ok hok (by omega) _ _ (lnR_kv hln)).2 e' he').2.2.2.2
    refine w_eqD (d := imD ⟨sg, en, l⟩) hi.dp hi2'.dp ((imLy (im := ⟨sg, en, l⟩) hky).shaped (by decide)) ?_
    (with_reducible refine w_bl ?_)
    (with_reducible refine w_itT ?_)
    (with_reducible refine w_orV ?_)
    (with_reducible refine w_op ?_)
    ((with_reducible refine' w_var ?hv ?_); (case hv => exact rfl))
    (with_reducible refine w_c ?_)
    (with_reducible refine w_eqS ?_)
    (with_reducible refine w_bl ?_)
    rcases hb with rfl | rfl
    · skip
      exact q _
    · refine w_dec (fun _ => q _) (fun _ => ?_)
      (with_reducible refine w_op ?_)
      (with_reducible refine w_cb ?_)
      (with_reducible refine w_cons ?_)
      ((with_reducible refine' w_var ?hv ?_); (case hv => exact rfl))
      (with_reducible refine w_nil ?_)
      refine w_repr (dp (s36.trans s7)) shw ?_
      rw [hSS]
      ((with_reducible refine' w_var ?hv ?_); (case hv => exact rfl))
      (with_reducible refine w_eqS ?_)
      rw [show decide (b = b) = true from decide_eq_true rfl]
      exact q _
  · refine ⟨true, TE.te, fun _ a0 _ => ?_, fun q => Bool.noConfusion q⟩
    rw [hln] at hv
    obtain ⟨t2, rfl, ht2⟩ := hv
    (with_reducible refine w_ret ?_)
    (with_reducible refine w_op ?_)
    ((with_reducible refine' w_var ?hv ?_); (case hv => exact rfl))
    (with_reducible refine w_tup ?_)
    (with_reducible refine w_cons ?_)
    (with_reducible refine w_fldL ?_)
    ((with_reducible refine' w_var ?hv ?_); (case hv => exact rfl))
    refine ⟨rfl, rfl, dd, _, _, _, rfl, hdd, rfl, ?_⟩
    (with_reducible refine w_cons ?_)
    (with_reducible refine w_fldL ?_)
    ((with_reducible refine' w_var ?hv ?_); (case hv => exact rfl))
    refine ⟨rfl, rfl, dd, _, _, _, rfl, hdd, rfl, ?_⟩
    (with_reducible refine w_nil ?_)
    refine w_kTup (by show 2 ≤ sizeLine; decide) fun pe H8 npe s8 hpe => ?_
    skip
    refine w_eqD (d := .tuple [.int k, .str c]) (.tup (.of (s8 _ _ ((s6.trans s7) _ _ ht2))) (.cons (.int _) (.cons (.str _) .nil))) (.tup (.of hpe) (.cons (.int _) (.cons (.str _) .nil))) (er_shaped (lnR_er hln)) ?_
    skip
    exact q _
theorem ok_exportsX {C fI : Addr} (TX : OwnL.Txt P K mg C fI) (b_enumerate : mg "enumerate" = none) (b_zip : mg "zip" = none) (c_is_name : Cd P w K mg base 1 "is_name" spName) (Z : St1 K mg "_exports" s_exports ["parts", "addresses"]) : CdX P w K mg base 2 "_exports" (spExp C) := by
  obtain ⟨f, fd, F, b, m⟩ := Z.ex
  exact ⟨f, fd, ["parts", "addresses"], ok_exports TX b_enumerate b_zip c_is_name F, m, F.kp, b⟩
theorem ok_metX {C fI : Addr} (TX : OwnL.Txt P K mg C fI) (b_all : mg "all" = none) (b_list : mg "list" = none) (c_has_form : Cd P w K mg base 4 "_has_form" spHasF) (c_changed : Cd P w K mg base 4 "_changed" spChg) (Z : St1 K mg "_met" s_met ["index", "part", "address", "exported"]) : CdX P w K mg base 5 "_met" (spMet C) := by
  obtain ⟨f, fd, F, b, m⟩ := Z.ex
  exact ⟨f, fd, ["index", "part", "address", "exported"], ok_met TX b_all b_list c_has_form c_changed F, m, F.kp, b⟩
theorem ok_linkX {C fI : Addr} (TX : OwnL.Txt P K mg C fI) (b_enumerate : mg "enumerate" = none) (b_zip : mg "zip" = none) (b_tuple : mg "tuple" = none) (b_sorted : mg "sorted" = none) (c_addresses : Cd P w K mg base 1 "_addresses" spAdr) (c_exports : CdX P w K mg base 2 "_exports" (spExp C)) (c_met : CdX P w K mg base 5 "_met" (spMet C)) (c_bytes_of_words : Cd P w K mg base 1 "bytes_of_words" spBytes) (c_image_faults : Cd P w K mg base 4 "image_faults" spFaults) (Z : St1 K mg "link" s_link ["parts"]) : CdX P w K mg base 6 "link" (spLink C) := by
  obtain ⟨f, fd, F, b, m⟩ := Z.ex
  exact ⟨f, fd, ["parts"], ok_link TX b_enumerate b_zip b_tuple b_sorted c_addresses c_exports c_met c_bytes_of_words c_image_faults F, m, F.kp, b⟩
end
end K08

namespace K08
theorem all_mk {l : PySem.W.OpenLaw} {w : World} {K : PySem.W.Frag} {h : Heap} {mg : Str → Option Value} {fa : Addr} (X : K.In h) (G : h.Ns mainGlobals mg) (hfa : mg "law" = some (.ref fa)) (c : SaysZ cks fns tabs w K) (cf : feObs K = feVal) (htop : (l.prog.main.scope.names.lookup ("super" : Str)).isSome = false) (hfile : ((l.prog.main.file : Str) == topFile) = true)
    {OO : Addr} {itOO : Array Value} {nOO : Nat} {slOO : Array (Option Value)} (aOO : PySem.W.nsIn K mainGlobals "OPS" = some (some (.ref OO))) (lOO : K.lookup OO = some ⟨.type "tuple", none, .seq itOO nOO, slOO⟩) (zOO : itOO.size ≤ sizeLine) (vOO : Vals ((opsT.map (·.1)).map V.str) itOO.toList) {FF : Addr} {esF : Array DictEntry} {nF : Nat} (aFF : PySem.W.nsIn K mainGlobals "FORMS" = some (some (.ref FF))) (lFF : K.lookup FF = some ⟨.type "dict", none, .dict esF nF, #[]⟩) (kFF : PySem.W.KeysLit w.params esF.toList) (sFF : (FF == sysModules) = false) {t_add t_sub t_mul t_and t_or t_xor t_shl t_shr t_sar t_slt t_sltu t_divu t_remu t_addi t_andi t_ori t_xori t_shli t_shri t_sari t_slti t_lui t_lw t_lb t_lbu t_sw t_sb t_beq t_bne t_blt t_bge t_bltu t_bgeu t_jal t_jalr t_get t_put t_exit : Tok} (o_add : PySem.W.nsIn K FF "add" = some (some (.str "dss" t_add))) (o_sub : PySem.W.nsIn K FF "sub" = some (some (.str "dss" t_sub))) (o_mul : PySem.W.nsIn K FF "mul" = some (some (.str "dss" t_mul))) (o_and : PySem.W.nsIn K FF "and" = some (some (.str "dss" t_and))) (o_or : PySem.W.nsIn K FF "or" = some (some (.str "dss" t_or))) (o_xor : PySem.W.nsIn K FF "xor" = some (some (.str "dss" t_xor))) (o_shl : PySem.W.nsIn K FF "shl" = some (some (.str "dss" t_shl))) (o_shr : PySem.W.nsIn K FF "shr" = some (some (.str "dss" t_shr))) (o_sar : PySem.W.nsIn K FF "sar" = some (some (.str "dss" t_sar))) (o_slt : PySem.W.nsIn K FF "slt" = some (some (.str "dss" t_slt))) (o_sltu : PySem.W.nsIn K FF "sltu" = some (some (.str "dss" t_sltu))) (o_divu : PySem.W.nsIn K FF "divu" = some (some (.str "dss" t_divu))) (o_remu : PySem.W.nsIn K FF "remu" = some (some (.str "dss" t_remu))) (o_addi : PySem.W.nsIn K FF "addi" = some (some (.str "dsi" t_addi))) (o_andi : PySem.W.nsIn K FF "andi" = some (some (.str "dsi" t_andi))) (o_ori : PySem.W.nsIn K FF "ori" = some (some (.str "dsi" t_ori))) (o_xori : PySem.W.nsIn K FF "xori" = some (some (.str "dsi" t_xori))) (o_shli : PySem.W.nsIn K FF "shli" = some (some (.str "dsi" t_shli))) (o_shri : PySem.W.nsIn K FF "shri" = some (some (.str "dsi" t_shri))) (o_sari : PySem.W.nsIn K FF "sari" = some (some (.str "dsi" t_sari))) (o_slti : PySem.W.nsIn K FF "slti" = some (some (.str "dsi" t_slti))) (o_lui : PySem.W.nsIn K FF "lui" = some (some (.str "du" t_lui))) (o_lw : PySem.W.nsIn K FF "lw" = some (some (.str "dsi" t_lw))) (o_lb : PySem.W.nsIn K FF "lb" = some (some (.str "dsi" t_lb))) (o_lbu : PySem.W.nsIn K FF "lbu" = some (some (.str "dsi" t_lbu))) (o_sw : PySem.W.nsIn K FF "sw" = some (some (.str "ssi" t_sw))) (o_sb : PySem.W.nsIn K FF "sb" = some (some (.str "ssi" t_sb))) (o_beq : PySem.W.nsIn K FF "beq" = some (some (.str "ssi" t_beq))) (o_bne : PySem.W.nsIn K FF "bne" = some (some (.str "ssi" t_bne))) (o_blt : PySem.W.nsIn K FF "blt" = some (some (.str "ssi" t_blt))) (o_bge : PySem.W.nsIn K FF "bge" = some (some (.str "ssi" t_bge))) (o_bltu : PySem.W.nsIn K FF "bltu" = some (some (.str "ssi" t_bltu))) (o_bgeu : PySem.W.nsIn K FF "bgeu" = some (some (.str "ssi" t_bgeu))) (o_jal : PySem.W.nsIn K FF "jal" = some (some (.str "dj" t_jal))) (o_jalr : PySem.W.nsIn K FF "jalr" = some (some (.str "dsi" t_jalr))) (o_get : PySem.W.nsIn K FF "get" = some (some (.str "d" t_get))) (o_put : PySem.W.nsIn K FF "put" = some (some (.str "s" t_put))) (o_exit : PySem.W.nsIn K FF "exit" = some (some (.str "s" t_exit))) {BB : Addr} {esB : Array DictEntry} {nB : Nat} (aBB : PySem.W.nsIn K mainGlobals "BOUNDS" = some (some (.ref BB))) (lBB : K.lookup BB = some ⟨.type "dict", none, .dict esB nB, #[]⟩) (kBB : PySem.W.KeysLit w.params esB.toList) {Bd : Addr} (b_d : PySem.W.nsIn K BB "d" = some (some (.ref Bd))) {itBd : Array Value} {nBd : Nat} {slBd : Array (Option Value)}  (lBd : K.lookup Bd = some ⟨.type "tuple", none, .seq itBd nBd, slBd⟩) (zBd : itBd.size ≤ sizeLine) (vBd : Vals [.int (0), .int (15)] itBd.toList) {Bs : Addr} (b_s : PySem.W.nsIn K BB "s" = some (some (.ref Bs))) {itBs : Array Value} {nBs : Nat} {slBs : Array (Option Value)}  (lBs : K.lookup Bs = some ⟨.type "tuple", none, .seq itBs nBs, slBs⟩) (zBs : itBs.size ≤ sizeLine) (vBs : Vals [.int (0), .int (15)] itBs.toList) {Bi : Addr} (b_i : PySem.W.nsIn K BB "i" = some (some (.ref Bi))) {itBi : Array Value} {nBi : Nat} {slBi : Array (Option Value)}  (lBi : K.lookup Bi = some ⟨.type "tuple", none, .seq itBi nBi, slBi⟩) (zBi : itBi.size ≤ sizeLine) (vBi : Vals [.int (-8192), .int (8191)] itBi.toList) {Bj : Addr} (b_j : PySem.W.nsIn K BB "j" = some (some (.ref Bj))) {itBj : Array Value} {nBj : Nat} {slBj : Array (Option Value)}  (lBj : K.lookup Bj = some ⟨.type "tuple", none, .seq itBj nBj, slBj⟩) (zBj : itBj.size ≤ sizeLine) (vBj : Vals [.int (-131072), .int (131071)] itBj.toList) {Bu : Addr} (b_u : PySem.W.nsIn K BB "u" = some (some (.ref Bu))) {itBu : Array Value} {nBu : Nat} {slBu : Array (Option Value)}  (lBu : K.lookup Bu = some ⟨.type "tuple", none, .seq itBu nBu, slBu⟩) (zBu : itBu.size ≤ sizeLine) (vBu : Vals [.int (0), .int (262143)] itBu.toList) {OF : Addr} {esO : Array DictEntry} {nO : Nat} (aOF : PySem.W.nsIn K mainGlobals "OPS_OF_FORMS" = some (some (.ref OF))) (lOF : K.lookup OF = some ⟨.type "dict", none, .dict esO nO, #[]⟩) (kOF : PySem.W.KeysLit w.params esO.toList) {Ojal : Addr} (p_jal : PySem.W.nsIn K OF "jal" = some (some (.ref Ojal))) {itOjal : Array Value} {nOjal : Nat} {slOjal : Array (Option Value)}  (lOjal : K.lookup Ojal = some ⟨.type "tuple", none, .seq itOjal nOjal, slOjal⟩) (zOjal : itOjal.size ≤ sizeLine) (vOjal : Vals [.str "jal"] itOjal.toList) {Ohigh : Addr} (p_high : PySem.W.nsIn K OF "high" = some (some (.ref Ohigh))) {itOhigh : Array Value} {nOhigh : Nat} {slOhigh : Array (Option Value)}  (lOhigh : K.lookup Ohigh = some ⟨.type "tuple", none, .seq itOhigh nOhigh, slOhigh⟩) (zOhigh : itOhigh.size ≤ sizeLine) (vOhigh : Vals [.str "lui"] itOhigh.toList) {Olow : Addr} (p_low : PySem.W.nsIn K OF "low" = some (some (.ref Olow))) {itOlow : Array Value} {nOlow : Nat} {slOlow : Array (Option Value)}  (lOlow : K.lookup Olow = some ⟨.type "tuple", none, .seq itOlow nOlow, slOlow⟩) (zOlow : itOlow.size ≤ sizeLine) (vOlow : Vals [.str "addi", .str "lw", .str "lb", .str "lbu", .str "sw", .str "sb"] itOlow.toList) : 
    ∃ fd : FuncData, (∀ (s : Shared) (v : Value), BindsTo s fd ⟨[v], []⟩ [("script", v)]) ∧ ∀ base : Heap, K.In base → base.Ns mainGlobals mg → RunG l.prog w K mg base fa fd "script" (spLaw K) := by
  have F_is_number : ∃ fd, Fun K "is_number" "is_number" s_is_number (He.ga K "is_number") fd := c.f 0
  have Z_is_number : St1 K mg "is_number" s_is_number ["value"] := zS1 X G (zGlo (c.q 0 : gloZ "is_number" K = true)) F_is_number (fun _ _ _ _ _ _ us hl => match us, hl with | [_], _ => rfl)
  have F_is_word : ∃ fd, Fun K "is_word" "is_word" s_is_word (He.ga K "is_word") fd := c.f 1
  have Z_is_word : St1 K mg "is_word" s_is_word ["value"] := zS1 X G (zGlo (c.q 1 : gloZ "is_word" K = true)) F_is_word (fun _ _ _ _ _ _ us hl => match us, hl with | [_], _ => rfl)
  have F_is_byte : ∃ fd, Fun K "is_byte" "is_byte" s_is_byte (He.ga K "is_byte") fd := c.f 2
  have Z_is_byte : St1 K mg "is_byte" s_is_byte ["value"] := zS1 X G (zGlo (c.q 2 : gloZ "is_byte" K = true)) F_is_byte (fun _ _ _ _ _ _ us hl => match us, hl with | [_], _ => rfl)
  have F_is_row : ∃ fd, Fun K "is_row" "is_row" s_is_row (He.ga K "is_row") fd := c.f 3
  have Z_is_row : St1 K mg "is_row" s_is_row ["value", "count"] := zS1 X G (zGlo (c.q 3 : gloZ "is_row" K = true)) F_is_row (fun _ _ _ _ _ _ us hl => match us, hl with | [_, _], _ => rfl)
  have F_is_name : ∃ fd, Fun K "is_name" "is_name" s_is_name (He.ga K "is_name") fd := c.f 4
  have Z_is_name : St1 K mg "is_name" s_is_name ["value"] := zS1 X G (zGlo (c.q 4 : gloZ "is_name" K = true)) F_is_name (fun _ _ _ _ _ _ us hl => match us, hl with | [_], _ => rfl)
  have F_is_operand : ∃ fd, Fun K "is_operand" "is_operand" s_is_operand (He.ga K "is_operand") fd := c.f 5
  have Z_is_operand : St1 K mg "is_operand" s_is_operand ["kind", "value"] := zS1 X G (zGlo (c.q 5 : gloZ "is_operand" K = true)) F_is_operand (fun _ _ _ _ _ _ us hl => match us, hl with | [_, _], _ => rfl)
  have F_encode : ∃ fd, Fun K "encode" "encode" s_encode (He.ga K "encode") fd := c.f 6
  have Z_encode : St1 K mg "encode" s_encode ["instruction"] := zS1 X G (zGlo (c.q 6 : gloZ "encode" K = true)) F_encode (fun _ _ _ _ _ _ us hl => match us, hl with | [_], _ => rfl)
  have F_decode : ∃ fd, Fun K "decode" "decode" s_decode (He.ga K "decode") fd := c.f 7
  have Z_decode : St1 K mg "decode" s_decode ["word"] := zS1 X G (zGlo (c.q 7 : gloZ "decode" K = true)) F_decode (fun _ _ _ _ _ _ us hl => match us, hl with | [_], _ => rfl)
  have F_immediate : ∃ fd, Fun K "_immediate" "_immediate" s_immediate (He.ga K "_immediate") fd := c.f 8
  have Z_immediate : St1 K mg "_immediate" s_immediate ["kind", "word"] := zS1 X G (zGlo (c.q 8 : gloZ "_immediate" K = true)) F_immediate (fun _ _ _ _ _ _ us hl => match us, hl with | [_, _], _ => rfl)
  have F_with_sign : ∃ fd, Fun K "_with_sign" "_with_sign" s_with_sign (He.ga K "_with_sign") fd := c.f 9
  have Z_with_sign : St1 K mg "_with_sign" s_with_sign ["bits", "half"] := zS1 X G (zGlo (c.q 9 : gloZ "_with_sign" K = true)) F_with_sign (fun _ _ _ _ _ _ us hl => match us, hl with | [_, _], _ => rfl)
  have F_image_faults : ∃ fd, Fun K "image_faults" "image_faults" s_image_faults (He.ga K "image_faults") fd := c.f 10
  have Z_image_faults : St1 K mg "image_faults" s_image_faults ["image"] := zS1 X G (zGlo (c.q 10 : gloZ "image_faults" K = true)) F_image_faults (fun _ _ _ _ _ _ us hl => match us, hl with | [_], _ => rfl)
  have F_is_segment : ∃ fd, Fun K "_is_segment" "_is_segment" s_is_segment (He.ga K "_is_segment") fd := c.f 11
  have Z_is_segment : St1 K mg "_is_segment" s_is_segment ["row"] := zS1 X G (zGlo (c.q 11 : gloZ "_is_segment" K = true)) F_is_segment (fun _ _ _ _ _ _ us hl => match us, hl with | [_], _ => rfl)
  have F_spans : ∃ fd, Fun K "_spans" "_spans" s_spans (He.ga K "_spans") fd := c.f 12
  have Z_spans : St1 K mg "_spans" s_spans ["rows"] := zS1 X G (zGlo (c.q 12 : gloZ "_spans" K = true)) F_spans (fun _ _ _ _ _ _ us hl => match us, hl with | [_], _ => rfl)
  have F_length : ∃ fd, Fun K "_length" "_length" s_length (He.ga K "_length") fd := c.f 13
  have Z_length : St1 K mg "_length" s_length ["row"] := zS1 X G (zGlo (c.q 13 : gloZ "_length" K = true)) F_length (fun _ _ _ _ _ _ us hl => match us, hl with | [_], _ => rfl)
  have F_out_of_order : ∃ fd, Fun K "_out_of_order" "_out_of_order" s_out_of_order (He.ga K "_out_of_order") fd := c.f 14
  have Z_out_of_order : St1 K mg "_out_of_order" s_out_of_order ["rows"] := zS1 X G (zGlo (c.q 14 : gloZ "_out_of_order" K = true)) F_out_of_order (fun _ _ _ _ _ _ us hl => match us, hl with | [_], _ => rfl)
  have F_has_bad_size : ∃ fd, Fun K "_has_bad_size" "_has_bad_size" s_has_bad_size (He.ga K "_has_bad_size") fd := c.f 15
  have Z_has_bad_size : St1 K mg "_has_bad_size" s_has_bad_size ["count", "rows"] := zS1 X G (zGlo (c.q 15 : gloZ "_has_bad_size" K = true)) F_has_bad_size (fun _ _ _ _ _ _ us hl => match us, hl with | [_, _], _ => rfl)
  have F_are_symbols : ∃ fd, Fun K "_are_symbols" "_are_symbols" s_are_symbols (He.ga K "_are_symbols") fd := c.f 16
  have Z_are_symbols : St1 K mg "_are_symbols" s_are_symbols ["symbols"] := zS1 X G (zGlo (c.q 16 : gloZ "_are_symbols" K = true)) F_are_symbols (fun _ _ _ _ _ _ us hl => match us, hl with | [_], _ => rfl)
  have F_bytes_of_words : ∃ fd, Fun K "bytes_of_words" "bytes_of_words" s_bytes_of_words (He.ga K "bytes_of_words") fd := c.f 17
  have Z_bytes_of_words : St1 K mg "bytes_of_words" s_bytes_of_words ["words"] := zS1 X G (zGlo (c.q 17 : gloZ "bytes_of_words" K = true)) F_bytes_of_words (fun _ _ _ _ _ _ us hl => match us, hl with | [_], _ => rfl)
  have F_link : ∃ fd, Fun K "link" "link" s_link (He.ga K "link") fd := c.f 18
  have Z_link : St1 K mg "link" s_link ["parts"] := zS1 X G (zGlo (c.q 18 : gloZ "link" K = true)) F_link (fun _ _ _ _ _ _ us hl => match us, hl with | [_], _ => rfl)
  have F_addresses : ∃ fd, Fun K "_addresses" "_addresses" s_addresses (He.ga K "_addresses") fd := c.f 19
  have Z_addresses : St1 K mg "_addresses" s_addresses ["parts"] := zS1 X G (zGlo (c.q 19 : gloZ "_addresses" K = true)) F_addresses (fun _ _ _ _ _ _ us hl => match us, hl with | [_], _ => rfl)
  have F_exports : ∃ fd, Fun K "_exports" "_exports" s_exports (He.ga K "_exports") fd := c.f 20
  have Z_exports : St1 K mg "_exports" s_exports ["parts", "addresses"] := zS1 X G (zGlo (c.q 20 : gloZ "_exports" K = true)) F_exports (fun _ _ _ _ _ _ us hl => match us, hl with | [_, _], _ => rfl)
  have F_met : ∃ fd, Fun K "_met" "_met" s_met (He.ga K "_met") fd := c.f 21
  have Z_met : St1 K mg "_met" s_met ["index", "part", "address", "exported"] := zS1 X G (zGlo (c.q 21 : gloZ "_met" K = true)) F_met (fun _ _ _ _ _ _ us hl => match us, hl with | [_, _, _, _], _ => rfl)
  have F_has_form : ∃ fd, Fun K "_has_form" "_has_form" s_has_form (He.ga K "_has_form") fd := c.f 22
  have Z_has_form : St1 K mg "_has_form" s_has_form ["form", "word"] := zS1 X G (zGlo (c.q 22 : gloZ "_has_form" K = true)) F_has_form (fun _ _ _ _ _ _ us hl => match us, hl with | [_, _], _ => rfl)
  have F_changed : ∃ fd, Fun K "_changed" "_changed" s_changed (He.ga K "_changed") fd := c.f 23
  have Z_changed : St1 K mg "_changed" s_changed ["form", "word", "place", "address"] := zS1 X G (zGlo (c.q 23 : gloZ "_changed" K = true)) F_changed (fun _ _ _ _ _ _ us hl => match us, hl with | [_, _, _, _], _ => rfl)
  have F_law_draw : ∃ fd, Fun K "_law_draw" "_law_draw" s_law_draw (He.ga K "_law_draw") fd := c.f 24
  have Z_law_draw : St1 K mg "_law_draw" s_law_draw ["script"] := zS1 X G (zGlo (c.q 24 : gloZ "_law_draw" K = true)) F_law_draw (fun _ _ _ _ _ _ us hl => match us, hl with | [_], _ => rfl)
  have F_law_take : ∃ fd, Fun K "_law_take" "_law_take" s_law_take (He.ga K "_law_take") fd := c.f 25
  have Z_law_take : St1 K mg "_law_take" s_law_take ["draw", "many"] := zS1 X G (zGlo (c.q 25 : gloZ "_law_take" K = true)) F_law_take (fun _ _ _ _ _ _ us hl => match us, hl with | [_, _], _ => rfl)
  have F_law_ops : ∃ fd, Fun K "_law_ops" "_law_ops" s_law_ops (He.ga K "_law_ops") fd := c.f 26
  have Z_law_ops : St1 K mg "_law_ops" s_law_ops [] := zS1 X G (zGlo (c.q 26 : gloZ "_law_ops" K = true)) F_law_ops (fun _ _ _ _ _ _ us hl => match us, hl with | [], _ => rfl)
  have F_law_word : ∃ fd, Fun K "_law_word" "_law_word" s_law_word (He.ga K "_law_word") fd := c.f 27
  have Z_law_word : St1 K mg "_law_word" s_law_word ["row"] := zS1 X G (zGlo (c.q 27 : gloZ "_law_word" K = true)) F_law_word (fun _ _ _ _ _ _ us hl => match us, hl with | [_], _ => rfl)
  have F_law_bytes : ∃ fd, Fun K "_law_bytes" "_law_bytes" s_law_bytes (He.ga K "_law_bytes") fd := c.f 28
  have Z_law_bytes : St1 K mg "_law_bytes" s_law_bytes ["word"] := zS1 X G (zGlo (c.q 28 : gloZ "_law_bytes" K = true)) F_law_bytes (fun _ _ _ _ _ _ us hl => match us, hl with | [_], _ => rfl)
  have F_law_part : ∃ fd, Fun K "_law_part" "_law_part" s_law_part (He.ga K "_law_part") fd := c.f 29
  have Z_law_part : St1 K mg "_law_part" s_law_part ["draw", "k", "names"] := zS1 X G (zGlo (c.q 29 : gloZ "_law_part" K = true)) F_law_part (fun _ _ _ _ _ _ us hl => match us, hl with | [_, _, _], _ => rfl)
  have F_law_places : ∃ fd, Fun K "_law_places" "_law_places" s_law_places (He.ga K "_law_places") fd := c.f 30
  have Z_law_places : St1 K mg "_law_places" s_law_places ["parts"] := zS1 X G (zGlo (c.q 30 : gloZ "_law_places" K = true)) F_law_places (fun _ _ _ _ _ _ us hl => match us, hl with | [_], _ => rfl)
  have F_law_filled : ∃ fd, Fun K "_law_filled" "_law_filled" s_law_filled (He.ga K "_law_filled") fd := c.f 31
  have Z_law_filled : St1 K mg "_law_filled" s_law_filled ["word", "form", "place", "address"] := zS1 X G (zGlo (c.q 31 : gloZ "_law_filled" K = true)) F_law_filled (fun _ _ _ _ _ _ us hl => match us, hl with | [_, _, _, _], _ => rfl)
  have F_law_due : ∃ fd, Fun K "_law_due" "_law_due" s_law_due (He.ga K "_law_due") fd := c.f 32
  have Z_law_due : St1 K mg "_law_due" s_law_due ["parts"] := zS1 X G (zGlo (c.q 32 : gloZ "_law_due" K = true)) F_law_due (fun _ _ _ _ _ _ us hl => match us, hl with | [_], _ => rfl)
  have F_law : ∃ fd, Fun K "law" "law" s_law (He.ga K "law") fd := c.f 33
  have a_law := zGlo (c.q 33 : gloZ "law" K = true)
  have Z_law : St1 K mg "law" s_law ["script"] := zS1 X G (zGlo (c.q 33 : gloZ "law" K = true)) F_law (fun _ _ _ _ _ _ us hl => match us, hl with | [_], _ => rfl)
  have g_WORDS_IN_ALL : GV mg "WORDS_IN_ALL" (.int 4294967296) := zInt X G (c.q 34 : (He.Fa.int "WORDS_IN_ALL" 4294967296).ok K = true)
  have g_MASK : GV mg "MASK" (.int 4294967295) := zInt X G (c.q 35 : (He.Fa.int "MASK" 4294967295).ok K = true)
  have g_LETTERS : GV mg "LETTERS" (.str "abcdefghijklmnopqrstuvwxyz") := zStrG X G (c.q 36 : (He.Fa.str "LETTERS" "abcdefghijklmnopqrstuvwxyz").ok K = true)
  have g_NAME_CHARACTERS : GV mg "NAME_CHARACTERS" (.str "abcdefghijklmnopqrstuvwxyz0123456789_") := zStrG X G (c.q 37 : (He.Fa.str "NAME_CHARACTERS" "abcdefghijklmnopqrstuvwxyz0123456789_").ok K = true)
  have g_LOW_14 : GV mg "LOW_14" (.int 16383) := zInt X G (c.q 38 : (He.Fa.int "LOW_14" 16383).ok K = true)
  have g_LOW_18 : GV mg "LOW_18" (.int 262143) := zInt X G (c.q 39 : (He.Fa.int "LOW_18" 262143).ok K = true)
  have g_MOST_SEGMENTS : GV mg "MOST_SEGMENTS" (.int 16) := zInt X G (c.q 40 : (He.Fa.int "MOST_SEGMENTS" 16).ok K = true)
  have g_MOST_BYTES : GV mg "MOST_BYTES" (.int 65536) := zInt X G (c.q 41 : (He.Fa.int "MOST_BYTES" 65536).ok K = true)
  have g_FIRST_ADDRESS : GV mg "FIRST_ADDRESS" (.int 4096) := zInt X G (c.q 42 : (He.Fa.int "FIRST_ADDRESS" 4096).ok K = true)
  have g_BETWEEN_PARTS : GV mg "BETWEEN_PARTS" (.int 16) := zInt X G (c.q 43 : (He.Fa.int "BETWEEN_PARTS" 16).ok K = true)
  have g_HALF_OF_LOW : GV mg "HALF_OF_LOW" (.int 8192) := zInt X G (c.q 44 : (He.Fa.int "HALF_OF_LOW" 8192).ok K = true)
  have b_abs : mg "abs" = none := zFree X G (c.q 45 : (He.Fa.free "abs").ok K = true)
  have b_all : mg "all" = none := zFree X G (c.q 46 : (He.Fa.free "all").ok K = true)
  have b_any : mg "any" = none := zFree X G (c.q 47 : (He.Fa.free "any").ok K = true)
  have b_bool : mg "bool" = none := zFree X G (c.q 48 : (He.Fa.free "bool").ok K = true)
  have b_enumerate : mg "enumerate" = none := zFree X G (c.q 49 : (He.Fa.free "enumerate").ok K = true)
  have b_int : mg "int" = none := zFree X G (c.q 50 : (He.Fa.free "int").ok K = true)
  have b_isinstance : mg "isinstance" = none := zFree X G (c.q 51 : (He.Fa.free "isinstance").ok K = true)
  have b_len : mg "len" = none := zFree X G (c.q 52 : (He.Fa.free "len").ok K = true)
  have b_list : mg "list" = none := zFree X G (c.q 53 : (He.Fa.free "list").ok K = true)
  have b_range : mg "range" = none := zFree X G (c.q 54 : (He.Fa.free "range").ok K = true)
  have b_repr : mg "repr" = none := zFree X G (c.q 55 : (He.Fa.free "repr").ok K = true)
  have b_sorted : mg "sorted" = none := zFree X G (c.q 56 : (He.Fa.free "sorted").ok K = true)
  have b_str : mg "str" = none := zFree X G (c.q 57 : (He.Fa.free "str").ok K = true)
  have b_sum : mg "sum" = none := zFree X G (c.q 58 : (He.Fa.free "sum").ok K = true)
  have b_tuple : mg "tuple" = none := zFree X G (c.q 59 : (He.Fa.free "tuple").ok K = true)
  have b_zip : mg "zip" = none := zFree X G (c.q 60 : (He.Fa.free "zip").ok K = true)
  have TX : OwnL.Txt l.prog K mg (He.ga K "LinkError") (errA K) := ex_txt X G htop hfile (c.q 61 : exZ topFile K = true) cf
  have e := hfa.symm.trans (PySem.W.mg_of X G a_law)
  cases e
  obtain ⟨fd_law, F_law⟩ := F_law
  obtain ⟨oc_law, od_law, kV_law, dc_law, pm_law, an_law, cd_law, ct_law, sl_law, rfl, l_law, cc_law⟩ := F_law.ex
  refine ⟨PySem.W.fnOf "law" "law" (defArgs s_law) (defBody s_law) (defScope s_law) .none kV_law dc_law pm_law an_law cd_law ct_law, fun s v => .of_eq rfl, fun base _ _ => ?_⟩
  have TE : Env0 K w mg OO FF := ⟨⟨_, PySem.W.mg_of X G aOO, rfl⟩, ⟨_, PySem.W.mg_of X G aFF, rfl⟩, g_LOW_14, g_LOW_18, ⟨itOO, nOO, slOO, lOO, zOO, vOO⟩, by
    intro p hp
    simp only [opsT, List.mem_cons, List.not_mem_nil, or_false] at hp
    rcases hp with rfl | rfl | rfl | rfl | rfl | rfl | rfl | rfl | rfl | rfl | rfl | rfl | rfl | rfl | rfl | rfl | rfl | rfl | rfl | rfl | rfl | rfl | rfl | rfl | rfl | rfl | rfl | rfl | rfl | rfl | rfl | rfl | rfl | rfl | rfl | rfl | rfl | rfl
    · exact ⟨esF, nF, _, lFF, kFF, o_add, ⟨_, rfl⟩⟩
    · exact ⟨esF, nF, _, lFF, kFF, o_sub, ⟨_, rfl⟩⟩
    · exact ⟨esF, nF, _, lFF, kFF, o_mul, ⟨_, rfl⟩⟩
    · exact ⟨esF, nF, _, lFF, kFF, o_and, ⟨_, rfl⟩⟩
    · exact ⟨esF, nF, _, lFF, kFF, o_or, ⟨_, rfl⟩⟩
    · exact ⟨esF, nF, _, lFF, kFF, o_xor, ⟨_, rfl⟩⟩
    · exact ⟨esF, nF, _, lFF, kFF, o_shl, ⟨_, rfl⟩⟩
    · exact ⟨esF, nF, _, lFF, kFF, o_shr, ⟨_, rfl⟩⟩
    · exact ⟨esF, nF, _, lFF, kFF, o_sar, ⟨_, rfl⟩⟩
    · exact ⟨esF, nF, _, lFF, kFF, o_slt, ⟨_, rfl⟩⟩
    · exact ⟨esF, nF, _, lFF, kFF, o_sltu, ⟨_, rfl⟩⟩
    · exact ⟨esF, nF, _, lFF, kFF, o_divu, ⟨_, rfl⟩⟩
    · exact ⟨esF, nF, _, lFF, kFF, o_remu, ⟨_, rfl⟩⟩
    · exact ⟨esF, nF, _, lFF, kFF, o_addi, ⟨_, rfl⟩⟩
    · exact ⟨esF, nF, _, lFF, kFF, o_andi, ⟨_, rfl⟩⟩
    · exact ⟨esF, nF, _, lFF, kFF, o_ori, ⟨_, rfl⟩⟩
    · exact ⟨esF, nF, _, lFF, kFF, o_xori, ⟨_, rfl⟩⟩
    · exact ⟨esF, nF, _, lFF, kFF, o_shli, ⟨_, rfl⟩⟩
    · exact ⟨esF, nF, _, lFF, kFF, o_shri, ⟨_, rfl⟩⟩
    · exact ⟨esF, nF, _, lFF, kFF, o_sari, ⟨_, rfl⟩⟩
    · exact ⟨esF, nF, _, lFF, kFF, o_slti, ⟨_, rfl⟩⟩
    · exact ⟨esF, nF, _, lFF, kFF, o_lui, ⟨_, rfl⟩⟩
    · exact ⟨esF, nF, _, lFF, kFF, o_lw, ⟨_, rfl⟩⟩
    · exact ⟨esF, nF, _, lFF, kFF, o_lb, ⟨_, rfl⟩⟩
    · exact ⟨esF, nF, _, lFF, kFF, o_lbu, ⟨_, rfl⟩⟩
    · exact ⟨esF, nF, _, lFF, kFF, o_sw, ⟨_, rfl⟩⟩
    · exact ⟨esF, nF, _, lFF, kFF, o_sb, ⟨_, rfl⟩⟩
    · exact ⟨esF, nF, _, lFF, kFF, o_beq, ⟨_, rfl⟩⟩
    · exact ⟨esF, nF, _, lFF, kFF, o_bne, ⟨_, rfl⟩⟩
    · exact ⟨esF, nF, _, lFF, kFF, o_blt, ⟨_, rfl⟩⟩
    · exact ⟨esF, nF, _, lFF, kFF, o_bge, ⟨_, rfl⟩⟩
    · exact ⟨esF, nF, _, lFF, kFF, o_bltu, ⟨_, rfl⟩⟩
    · exact ⟨esF, nF, _, lFF, kFF, o_bgeu, ⟨_, rfl⟩⟩
    · exact ⟨esF, nF, _, lFF, kFF, o_jal, ⟨_, rfl⟩⟩
    · exact ⟨esF, nF, _, lFF, kFF, o_jalr, ⟨_, rfl⟩⟩
    · exact ⟨esF, nF, _, lFF, kFF, o_get, ⟨_, rfl⟩⟩
    · exact ⟨esF, nF, _, lFF, kFF, o_put, ⟨_, rfl⟩⟩
    · exact ⟨esF, nF, _, lFF, kFF, o_exit, ⟨_, rfl⟩⟩⟩
  have TBN : BndAt K w mg BB := ⟨⟨_, PySem.W.mg_of X G aBB, rfl⟩, by
    intro c hc
    simp only [kinds, List.mem_cons, List.not_mem_nil, or_false] at hc
    rcases hc with rfl | rfl | rfl | rfl | rfl
    · exact ⟨Bd, ⟨esB, nB, _, lBB, kBB, b_d, rfl⟩, itBd, nBd, slBd, lBd, zBd, vBd⟩
    · exact ⟨Bs, ⟨esB, nB, _, lBB, kBB, b_s, rfl⟩, itBs, nBs, slBs, lBs, zBs, vBs⟩
    · exact ⟨Bi, ⟨esB, nB, _, lBB, kBB, b_i, rfl⟩, itBi, nBi, slBi, lBi, zBi, vBi⟩
    · exact ⟨Bj, ⟨esB, nB, _, lBB, kBB, b_j, rfl⟩, itBj, nBj, slBj, lBj, zBj, vBj⟩
    · exact ⟨Bu, ⟨esB, nB, _, lBB, kBB, b_u, rfl⟩, itBu, nBu, slBu, lBu, zBu, vBu⟩⟩
  have TOF : OfAt K w mg OF := ⟨⟨_, PySem.W.mg_of X G aOF, rfl⟩, ⟨Ojal, ⟨esO, nO, _, lOF, kOF, p_jal, rfl⟩, itOjal, nOjal, slOjal, lOjal, zOjal, vOjal⟩, ⟨Ohigh, ⟨esO, nO, _, lOF, kOF, p_high, rfl⟩, itOhigh, nOhigh, slOhigh, lOhigh, zOhigh, vOhigh⟩, ⟨Olow, ⟨esO, nO, _, lOF, kOF, p_low, rfl⟩, itOlow, nOlow, slOlow, lOlow, zOlow, vOlow⟩⟩
  have c_law_draw : Cd l.prog w K mg base 1 "_law_draw" (spDraw K) := ok_draw b_int b_abs b_len Z_law_draw
  have c_law_take : Cd l.prog w K mg base 1 "_law_take" spTake := ok_take b_int b_abs b_len Z_law_take
  have c_law_ops : Cd l.prog w K mg base 1 "_law_ops" spOps := ok_law_ops Z_law_ops
  have c_law_word : Cd l.prog w K mg base 2 "_law_word" (spWordS K) := ok_law_wordS b_len b_int c_law_ops Z_law_word
  have c_law_part : Cd l.prog w K mg base 3 "_law_part" spPart := ok_law_part b_range b_len b_str b_tuple c_law_take c_law_word Z_law_part
  have c_law_places : Cd l.prog w K mg base 1 "_law_places" spPlaces := ok_law_places b_len Z_law_places
  have c_law_filled : Cd l.prog w K mg base 1 "_law_filled" spFil := ok_law_filled b_int Z_law_filled
  have c_law_bytes : Cd l.prog w K mg base 1 "_law_bytes" spLB := ok_law_bytes b_int Z_law_bytes
  have c_law_due : Cd l.prog w K mg base 2 "_law_due" spDue := ok_law_due b_range b_len b_list b_tuple b_sum b_sorted c_law_places c_law_filled c_law_bytes Z_law_due
  have c_addresses : Cd l.prog w K mg base 1 "_addresses" spAdr := ok_addresses b_len g_FIRST_ADDRESS g_BETWEEN_PARTS Z_addresses
  have c_is_name : Cd l.prog w K mg base 1 "is_name" spName := ok_is_name b_isinstance b_str b_len b_all g_LETTERS g_NAME_CHARACTERS Z_is_name
  have c_exports : CdX l.prog w K mg base 2 "_exports" (spExp (He.ga K "LinkError")) := ok_exportsX TX b_enumerate b_zip c_is_name Z_exports
  have c_encode : Cd l.prog w K mg base 1 "encode" (spEnc K) := ok_encode TE b_zip Z_encode
  have c_with_sign : Cd l.prog w K mg base 1 "_with_sign" (spI2 (fun _ h => 0 ≤ h ∧ h < 1000000) fun b h => .int (sg b h)) := ok_with_sign Z_with_sign
  have c_immediate : Cd l.prog w K mg base 2 "_immediate" spImm := ok_immediate TE c_with_sign Z_immediate
  have c_decode : Cd l.prog w K mg base 3 "decode" spDec := ok_decode TE b_len c_encode c_immediate Z_decode
  have c_has_form : Cd l.prog w K mg base 4 "_has_form" spHasF := ok_has_form TOF c_decode Z_has_form
  have c_is_number : Cd l.prog w K mg base 1 "is_number" spIsNum := ok_is_number b_isinstance b_int b_bool Z_is_number
  have c_is_operand : Cd l.prog w K mg base 2 "is_operand" spIsOp := ok_is_operand TBN c_is_number Z_is_operand
  have c_changed : Cd l.prog w K mg base 4 "_changed" spChg := ok_changed g_HALF_OF_LOW g_MASK c_decode c_encode c_is_operand Z_changed
  have c_met : CdX l.prog w K mg base 5 "_met" (spMet (He.ga K "LinkError")) := ok_metX TX b_all b_list c_has_form c_changed Z_met
  have c_bytes_of_words : Cd l.prog w K mg base 1 "bytes_of_words" spBytes := ok_bytes Z_bytes_of_words
  have c_is_row : Cd l.prog w K mg base 1 "is_row" spIsRow := ok_is_row b_isinstance b_tuple b_len Z_is_row
  have c_length : Cd l.prog w K mg base 1 "_length" spLen := ok_length b_len b_isinstance b_tuple Z_length
  have c_spans : Cd l.prog w K mg base 2 "_spans" spSpans := ok_spans c_is_number c_length Z_spans
  have c_out_of_order : Cd l.prog w K mg base 3 "_out_of_order" spOut := ok_out_of_order b_zip c_spans Z_out_of_order
  have c_is_word : Cd l.prog w K mg base 2 "is_word" spIsW := ok_is_word g_MASK c_is_number Z_is_word
  have c_is_byte : Cd l.prog w K mg base 2 "is_byte" spIsB := ok_is_byte c_is_number Z_is_byte
  have c_is_segment : Cd l.prog w K mg base 3 "_is_segment" spIsSeg := ok_is_segment b_len b_isinstance b_tuple b_bool b_all c_is_row c_is_word c_is_byte Z_is_segment
  have c_has_bad_size : Cd l.prog w K mg base 3 "_has_bad_size" spBadSz := ok_has_bad_size b_sum b_any g_MOST_SEGMENTS g_MOST_BYTES g_WORDS_IN_ALL c_length c_spans Z_has_bad_size
  have c_are_symbols : Cd l.prog w K mg base 3 "_are_symbols" spSyms := ok_are_symbols b_isinstance b_tuple b_all b_zip c_is_row c_is_word c_is_name Z_are_symbols
  have c_image_faults : Cd l.prog w K mg base 4 "image_faults" spFaults := ok_image_faults b_len b_isinstance b_tuple b_all b_any c_is_row c_out_of_order c_is_segment c_has_bad_size c_are_symbols Z_image_faults
  have c_link : CdX l.prog w K mg base 6 "link" (spLink (He.ga K "LinkError")) := ok_linkX TX b_enumerate b_zip b_tuple b_sorted c_addresses c_exports c_met c_bytes_of_words c_image_faults Z_link
  exact ok_law TX b_range b_len b_list b_repr c_law_draw c_law_take c_law_part c_law_due c_link F_law
theorem all_fin {l : PySem.W.OpenLaw} {w : World} {K : PySem.W.Frag} {h : Heap} {mg : Str → Option Value} {fa : Addr} (X : K.In h) (G : h.Ns mainGlobals mg) (hfa : mg "law" = some (.ref fa)) (c : SaysZ cks fns tabs w K) (cf : feObs K = feVal) (htop : (l.prog.main.scope.names.lookup ("super" : Str)).isSome = false) (hfile : ((l.prog.main.file : Str) == topFile) = true) :
    ∃ fd : FuncData, (∀ (s : Shared) (v : Value), BindsTo s fd ⟨[v], []⟩ [("script", v)]) ∧ ∀ base : Heap, K.In base → base.Ns mainGlobals mg → RunG l.prog w K mg base fa fd "script" (spLaw K) := by
  obtain ⟨itOO, nOO, slOO, lOO, zOO, vOO⟩ := zTup (show tupZ K (He.ga K "OPS") ((opsT.map (·.1)).map V.str) = true from c.q (f := fun K => tupZ K (He.ga K "OPS") (([.str "add", .str "sub", .str "mul", .str "and", .str "or", .str "xor", .str "shl", .str "shr", .str "sar", .str "slt", .str "sltu", .str "divu"] : List V) ++ ([.str "remu", .str "addi", .str "andi", .str "ori", .str "xori", .str "shli", .str "shri", .str "sari", .str "slti", .str "lui", .str "lw", .str "lb"] : List V) ++ ([.str "lbu", .str "sw", .str "sb", .str "beq", .str "bne", .str "blt", .str "bge", .str "bltu", .str "bgeu", .str "jal", .str "jalr", .str "get"] : List V) ++ ([.str "put", .str "exit"] : List V))) 62)
  obtain ⟨esF, nF, lFF, kFF, sFF⟩ := c.t 0 (a := fun K => (He.ga K "FORMS"))
  obtain ⟨esB, nB, lBB, kBB, sBB⟩ := c.t 1 (a := fun K => (He.ga K "BOUNDS"))
  obtain ⟨itBd, nBd, slBd, lBd, zBd, vBd⟩ := zTup (show tupZ K (nsA K (He.ga K "BOUNDS") "d") [.int (0), .int (15)] = true from c.q (f := fun K => tupZ K (nsA K (He.ga K "BOUNDS") "d") [.int (0), .int (15)]) 63)
  obtain ⟨itBs, nBs, slBs, lBs, zBs, vBs⟩ := zTup (show tupZ K (nsA K (He.ga K "BOUNDS") "s") [.int (0), .int (15)] = true from c.q (f := fun K => tupZ K (nsA K (He.ga K "BOUNDS") "s") [.int (0), .int (15)]) 64)
  obtain ⟨itBi, nBi, slBi, lBi, zBi, vBi⟩ := zTup (show tupZ K (nsA K (He.ga K "BOUNDS") "i") [.int (-8192), .int (8191)] = true from c.q (f := fun K => tupZ K (nsA K (He.ga K "BOUNDS") "i") [.int (-8192), .int (8191)]) 65)
  obtain ⟨itBj, nBj, slBj, lBj, zBj, vBj⟩ := zTup (show tupZ K (nsA K (He.ga K "BOUNDS") "j") [.int (-131072), .int (131071)] = true from c.q (f := fun K => tupZ K (nsA K (He.ga K "BOUNDS") "j") [.int (-131072), .int (131071)]) 66)
  obtain ⟨itBu, nBu, slBu, lBu, zBu, vBu⟩ := zTup (show tupZ K (nsA K (He.ga K "BOUNDS") "u") [.int (0), .int (262143)] = true from c.q (f := fun K => tupZ K (nsA K (He.ga K "BOUNDS") "u") [.int (0), .int (262143)]) 67)
  obtain ⟨esO, nO, lOF, kOF, sOF⟩ := c.t 2 (a := fun K => (He.ga K "OPS_OF_FORMS"))
  obtain ⟨itOjal, nOjal, slOjal, lOjal, zOjal, vOjal⟩ := zTup (show tupZ K (nsA K (He.ga K "OPS_OF_FORMS") "jal") [.str "jal"] = true from c.q (f := fun K => tupZ K (nsA K (He.ga K "OPS_OF_FORMS") "jal") [.str "jal"]) 68)
  obtain ⟨itOhigh, nOhigh, slOhigh, lOhigh, zOhigh, vOhigh⟩ := zTup (show tupZ K (nsA K (He.ga K "OPS_OF_FORMS") "high") [.str "lui"] = true from c.q (f := fun K => tupZ K (nsA K (He.ga K "OPS_OF_FORMS") "high") [.str "lui"]) 69)
  obtain ⟨itOlow, nOlow, slOlow, lOlow, zOlow, vOlow⟩ := zTup (show tupZ K (nsA K (He.ga K "OPS_OF_FORMS") "low") [.str "addi", .str "lw", .str "lb", .str "lbu", .str "sw", .str "sb"] = true from c.q (f := fun K => tupZ K (nsA K (He.ga K "OPS_OF_FORMS") "low") [.str "addi", .str "lw", .str "lb", .str "lbu", .str "sw", .str "sb"]) 70)
  obtain ⟨_, o_add⟩ := zStr (c.q 73 : strZ K (He.ga K "FORMS") "add" "dss" = true)
  obtain ⟨_, o_sub⟩ := zStr (c.q 74 : strZ K (He.ga K "FORMS") "sub" "dss" = true)
  obtain ⟨_, o_mul⟩ := zStr (c.q 75 : strZ K (He.ga K "FORMS") "mul" "dss" = true)
  obtain ⟨_, o_and⟩ := zStr (c.q 76 : strZ K (He.ga K "FORMS") "and" "dss" = true)
  obtain ⟨_, o_or⟩ := zStr (c.q 77 : strZ K (He.ga K "FORMS") "or" "dss" = true)
  obtain ⟨_, o_xor⟩ := zStr (c.q 78 : strZ K (He.ga K "FORMS") "xor" "dss" = true)
  obtain ⟨_, o_shl⟩ := zStr (c.q 79 : strZ K (He.ga K "FORMS") "shl" "dss" = true)
  obtain ⟨_, o_shr⟩ := zStr (c.q 80 : strZ K (He.ga K "FORMS") "shr" "dss" = true)
  obtain ⟨_, o_sar⟩ := zStr (c.q 81 : strZ K (He.ga K "FORMS") "sar" "dss" = true)
  obtain ⟨_, o_slt⟩ := zStr (c.q 82 : strZ K (He.ga K "FORMS") "slt" "dss" = true)
  obtain ⟨_, o_sltu⟩ := zStr (c.q 83 : strZ K (He.ga K "FORMS") "sltu" "dss" = true)
  obtain ⟨_, o_divu⟩ := zStr (c.q 84 : strZ K (He.ga K "FORMS") "divu" "dss" = true)
  obtain ⟨_, o_remu⟩ := zStr (c.q 85 : strZ K (He.ga K "FORMS") "remu" "dss" = true)
  obtain ⟨_, o_addi⟩ := zStr (c.q 86 : strZ K (He.ga K "FORMS") "addi" "dsi" = true)
  obtain ⟨_, o_andi⟩ := zStr (c.q 87 : strZ K (He.ga K "FORMS") "andi" "dsi" = true)
  obtain ⟨_, o_ori⟩ := zStr (c.q 88 : strZ K (He.ga K "FORMS") "ori" "dsi" = true)
  obtain ⟨_, o_xori⟩ := zStr (c.q 89 : strZ K (He.ga K "FORMS") "xori" "dsi" = true)
  obtain ⟨_, o_shli⟩ := zStr (c.q 90 : strZ K (He.ga K "FORMS") "shli" "dsi" = true)
  obtain ⟨_, o_shri⟩ := zStr (c.q 91 : strZ K (He.ga K "FORMS") "shri" "dsi" = true)
  obtain ⟨_, o_sari⟩ := zStr (c.q 92 : strZ K (He.ga K "FORMS") "sari" "dsi" = true)
  obtain ⟨_, o_slti⟩ := zStr (c.q 93 : strZ K (He.ga K "FORMS") "slti" "dsi" = true)
  obtain ⟨_, o_lui⟩ := zStr (c.q 94 : strZ K (He.ga K "FORMS") "lui" "du" = true)
  obtain ⟨_, o_lw⟩ := zStr (c.q 95 : strZ K (He.ga K "FORMS") "lw" "dsi" = true)
  obtain ⟨_, o_lb⟩ := zStr (c.q 96 : strZ K (He.ga K "FORMS") "lb" "dsi" = true)
  obtain ⟨_, o_lbu⟩ := zStr (c.q 97 : strZ K (He.ga K "FORMS") "lbu" "dsi" = true)
  obtain ⟨_, o_sw⟩ := zStr (c.q 98 : strZ K (He.ga K "FORMS") "sw" "ssi" = true)
  obtain ⟨_, o_sb⟩ := zStr (c.q 99 : strZ K (He.ga K "FORMS") "sb" "ssi" = true)
  obtain ⟨_, o_beq⟩ := zStr (c.q 100 : strZ K (He.ga K "FORMS") "beq" "ssi" = true)
  obtain ⟨_, o_bne⟩ := zStr (c.q 101 : strZ K (He.ga K "FORMS") "bne" "ssi" = true)
  obtain ⟨_, o_blt⟩ := zStr (c.q 102 : strZ K (He.ga K "FORMS") "blt" "ssi" = true)
  obtain ⟨_, o_bge⟩ := zStr (c.q 103 : strZ K (He.ga K "FORMS") "bge" "ssi" = true)
  obtain ⟨_, o_bltu⟩ := zStr (c.q 104 : strZ K (He.ga K "FORMS") "bltu" "ssi" = true)
  obtain ⟨_, o_bgeu⟩ := zStr (c.q 105 : strZ K (He.ga K "FORMS") "bgeu" "ssi" = true)
  obtain ⟨_, o_jal⟩ := zStr (c.q 106 : strZ K (He.ga K "FORMS") "jal" "dj" = true)
  obtain ⟨_, o_jalr⟩ := zStr (c.q 107 : strZ K (He.ga K "FORMS") "jalr" "dsi" = true)
  obtain ⟨_, o_get⟩ := zStr (c.q 108 : strZ K (He.ga K "FORMS") "get" "d" = true)
  obtain ⟨_, o_put⟩ := zStr (c.q 109 : strZ K (He.ga K "FORMS") "put" "s" = true)
  obtain ⟨_, o_exit⟩ := zStr (c.q 110 : strZ K (He.ga K "FORMS") "exit" "s" = true)
  exact all_mk X G hfa c cf htop hfile (zGlo (c.q 71 : gloZ "OPS" K = true)) lOO zOO vOO (zGlo (c.q 72 : gloZ "FORMS" K = true)) lFF kFF sFF o_add o_sub o_mul o_and o_or o_xor o_shl o_shr o_sar o_slt o_sltu o_divu o_remu o_addi o_andi o_ori o_xori o_shli o_shri o_sari o_slti o_lui o_lw o_lb o_lbu o_sw o_sb o_beq o_bne o_blt o_bge o_bltu o_bgeu o_jal o_jalr o_get o_put o_exit (zGlo (c.q 111 : gloZ "BOUNDS" K = true)) lBB kBB (zNs (c.q 112 : nsZ K (He.ga K "BOUNDS") "d" (some (.ref (nsA K (He.ga K "BOUNDS") "d"))) = true)) lBd zBd vBd (zNs (c.q 113 : nsZ K (He.ga K "BOUNDS") "s" (some (.ref (nsA K (He.ga K "BOUNDS") "s"))) = true)) lBs zBs vBs (zNs (c.q 114 : nsZ K (He.ga K "BOUNDS") "i" (some (.ref (nsA K (He.ga K "BOUNDS") "i"))) = true)) lBi zBi vBi (zNs (c.q 115 : nsZ K (He.ga K "BOUNDS") "j" (some (.ref (nsA K (He.ga K "BOUNDS") "j"))) = true)) lBj zBj vBj (zNs (c.q 116 : nsZ K (He.ga K "BOUNDS") "u" (some (.ref (nsA K (He.ga K "BOUNDS") "u"))) = true)) lBu zBu vBu (zGlo (c.q 117 : gloZ "OPS_OF_FORMS" K = true)) lOF kOF (zNs (c.q 118 : nsZ K (He.ga K "OPS_OF_FORMS") "jal" (some (.ref (nsA K (He.ga K "OPS_OF_FORMS") "jal"))) = true)) lOjal zOjal vOjal (zNs (c.q 119 : nsZ K (He.ga K "OPS_OF_FORMS") "high" (some (.ref (nsA K (He.ga K "OPS_OF_FORMS") "high"))) = true)) lOhigh zOhigh vOhigh (zNs (c.q 120 : nsZ K (He.ga K "OPS_OF_FORMS") "low" (some (.ref (nsA K (He.ga K "OPS_OF_FORMS") "low"))) = true)) lOlow zOlow vOlow
end K08
open PySem PySem.W PySem.Calls PyProof.Rows
set_option maxRecDepth 100000 in
set_option maxHeartbeats 0 in
theorem PySem.Challenge.cw_restitch_k08_linked_parts_holds : PySem.Challenge.rw_restitch_k08_linked_parts.Holds := by
  w_on; o_law
  refine HandSHeadRun.head_any (r := OpenLaw.row PySem.Challenge.rw_restitch_k08_linked_parts) (q := view (OpenLaw.row PySem.Challenge.rw_restitch_k08_linked_parts).prog [74]) (H := K08.hk) (ob := K08.ob) (M := 12000) (loose := K08.topN) (d := HandSHeadRun.topDef (OpenLaw.row PySem.Challenge.rw_restitch_k08_linked_parts).prog 74) (kwd := []) K08.ob_eq
    (by kernel_rfl) (fun s => by kernel_rfl) K08.run (by kernel_rfl) (by kernel_rfl) (by kernel_rfl) (by rfl) (by first | assumption | decide +kernel) (by decide +kernel) ⟨rfl, rfl, rfl, rfl, rfl, by decide +kernel⟩ ?hw ?hc
  case hw => w_witness2
  case hc =>
    refine Co.walk_ofZ (l := PySem.Challenge.rw_restitch_k08_linked_parts) (n := 63) (x := "script") rfl (by decide) (by kernel_rfl) ?F
    intro w mg fa h Y G hmg0
    obtain ⟨K, KX, c, cf⟩ := Y
    have hmg : mg ("law" : PySem.Str) = some (.ref fa) := by
      have e : (HandSHeadRun.topDef (OpenLaw.row PySem.Challenge.rw_restitch_k08_linked_parts).prog 74).name = ("law" : PySem.Str) := by kernel_rfl
      rw [← e]
      exact hmg0
    obtain ⟨fd, hb, hF⟩ := K08.all_fin (l := PySem.Challenge.rw_restitch_k08_linked_parts) (w := w) KX G hmg c cf (by kernel_rfl) (by kernel_rfl)
    exact ⟨K, fd, K08.spLaw K, KX, hb, fun H a ns hl _ hS => ⟨a, ns, rfl, hS, hl, fun _ => rfl⟩, hF⟩


