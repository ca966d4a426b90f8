import PyProof.Rows.All
import Wide.All
import OpenK.AllK
import Wide.FinOn
import HandS.Base
import HandS.Call
import HandS.List
import HandS.Comp
import HandS.Ends
import HandS.Iter
import HandS.Text
import HandS.Words
import HandS.WordsList
import HandS.IsInst
import HandS.More
import HandS.Wide
import HandS.Style
import HandS.EndBits
import PySem.Challenge.RW_warbleline_k05_whole_few_hurt_bits_are_t
set_option Elab.async false
set_option linter.all false
set_option maxRecDepth 100000
set_option maxHeartbeats 2000000
namespace WB
open PySem PySem.Spec PyProof.Rows L2
/-! ### a def that may be called by its name, letting nothing out -/
def Cal (P : Program) (w : World) (K : PySem.W.Frag) (mg : Str → Option Value) (base : Heap) (k : Nat) (nm : Str) (ps : List Str) (sp : Sp) : Prop :=
  ∃ (f : Addr) (fd : FuncData), FnOk P w K mg base CX0 k f fd ps sp ∧ mg nm = some (.ref f) ∧ PySem.W.keepIn K (.ref f) = true ∧ Binds K fd ps []
theorem Cal.mono {P : Program} {w : World} {K : PySem.W.Frag} {mg : Str → Option Value} {base : Heap} {j k : Nat} {nm : Str} {ps : List Str} {sp : Sp} (c : Cal P w K mg base j nm ps sp) (h : j ≤ k) : Cal P w K mg base k nm ps sp := by
  obtain ⟨f, fd, a, b, d, e⟩ := c
  exact ⟨f, fd, a.mono h, b, d, e⟩
section
variable {X : Cx} {k : Nat} {nm : Str} {ps : List Str} {sp : Sp} {e : Expr} {es : List Expr} {t : TA} {p pos : Pos}
theorem pe_callC (c : Cal X.prog X.w X.K X.mg X.base k nm ps sp) (hr : Room k X.A) (hg : Gl X nm) (ha : PA X (e :: es) t) (hdb : (nm == ("__debug__" : Str)) = false := by decide)
    (he : starEach (e :: es) X.env = (false, eval e X.env) :: starEach es X.env := by rfl) (hpl : (backTo pos (starEach es X.env)).any (·.1) = false := by rfl) :
    PE X (.Call (.Name nm p) (e :: es) [] pos) (tCall sp [] E0 t) := by
  obtain ⟨f, fd, a, b, d, g⟩ := c
  exact pe_call a hr hg b d g .nil pass0 ha hdb he hpl
theorem pe_callC0 (c : Cal X.prog X.w X.K X.mg X.base k nm ps sp) (hr : Room k X.A) (hg : Gl X nm) (hdb : (nm == ("__debug__" : Str)) = false := by decide) :
    PE X (.Call (.Name nm p) [] [] pos) (tCall sp [] E0 tNil) := by
  obtain ⟨f, fd, a, b, d, g⟩ := c
  exact pe_call0 a hr hg b d g .nil pass0 hdb
end
/-! ### rules with the written part by its name (a comprehension's block has the same one) -/
section
variable {X : Cx} (K : PySem.W.Frag)
theorem ix_listK (h : X.K = K) : IxR X (rIxL K) := by subst h; exact ix_list
theorem ix_tupK (h : X.K = K) : IxR X (rIxT K) := by subst h; exact ix_tup
theorem ix_seqK (h : X.K = K) : IxR X (rIx K) := by subst h; exact ix_seq
def rLenK (K : PySem.W.Frag) : List V → Hp → VK → Prop := fun xs H Q => ∃ p ys, xs = [.ref p] ∧ (SqL K H p ys ∨ SqT K H p ys) ∧ Q (.int ys.length) H
theorem call_lenK (h : X.K = K) : CallR X (.builtin "len") (rLenK K) := by subst h; exact call_len_seq
def rListK (K : PySem.W.Frag) : List V → Hp → VK → Prop := fun xs H Q => ∃ p ys, xs = [.ref p] ∧ (SqL K H p ys ∨ SqT K H p ys) ∧ ∀ l, H l = none → Q (.ref l) (upd H l (.lst ys))
theorem call_listK (h : X.K = K) : CallR X (.type "list") (rListK K) := by subst h; exact call_list_of
theorem call_isiK1 (h : X.K = K) : CallR X (.builtin "isinstance") (rIsi K) := by subst h; exact call_isi
theorem call_isiTK (h : X.K = K) : CallR X (.builtin "isinstance") (rIsiT K) := by subst h; exact call_isiT
theorem op_inK (h : X.K = K) : OpR X (compareOp .In) (rIn K false) := by subst h; exact op_in_seq
theorem op_notInK (h : X.K = K) : OpR X (compareOp .NotIn) (rIn K true) := by subst h; exact op_notIn_seq
theorem op_eqDK (h : X.K = K) (hu : X.A.units + 64 < cLine) : OpR X (compareOp .Eq) (rEqD K) := by subst h; exact op_eqD hu
theorem op_neDK (h : X.K = K) (hu : X.A.units + 64 < cLine) : OpR X (compareOp .NotEq) (rNeD K) := by subst h; exact op_neD hu
theorem sl_listK (h : X.K = K) : SlR X (rSlL K) := by subst h; exact sl_list
theorem cr_allK (h : X.K = K) (hc : X.calm = true) : CallR X (.builtin "all") (rAll K) := by subst h; exact cr_all hc
variable {o e : Expr} {es : List Expr} {to : TE} {t : TA} {name : Str} {apos cpos : Pos} {T id : String} {r : V → List V → Hp → VK → Prop}
theorem pe_bm0K (h : X.K = K) (pa : PlainAttrs T) (slot : Slot T name id) (hty : typeOf (.builtin id) = pure (.type "method_descriptor")) (hm : MtR X id r) (ho : PE X o to)
    (hbase : attributeBase o name X.env (eval o X.env) = eval o X.env := by rfl) (hline : (apos.endLine == cpos.line) = true := by rfl) : PE X (.Call (.Attribute o name apos) [] [] cpos) (tBM0 K T r to) := by
  subst h; exact pe_bm0 pa slot hty hm ho hbase hline
theorem pe_bmK (h : X.K = K) (pa : PlainAttrs T) (slot : Slot T name id) (hty : typeOf (.builtin id) = pure (.type "method_descriptor")) (hm : MtR X id r) (ho : PE X o to) (ha : PA X (e :: es) t)
    (hbase : attributeBase o name X.env (eval o X.env) = eval o X.env := by rfl)
    (hfew : ((backTo cpos (starEach (e :: es) X.env)).all (fun x => !x.1) && (backToKw cpos (keywordEach [] X.env)).all (fun x => x.1.isSome)
      && decide ((e :: es).length + ([] : List Keyword).length + (if ([] : List Keyword).isEmpty then 0 else 1) < 30)) = true := by rfl)
    (hline : (apos.endLine == cpos.line) = true := by rfl) (hs : starEach (e :: es) X.env = (false, eval e X.env) :: starEach es X.env := by rfl) (hplain : (backTo cpos (starEach es X.env)).any (·.1) = false := by rfl) :
    PE X (.Call (.Attribute o name apos) (e :: es) [] cpos) (tBM K T r to t) := by
  subst h; exact pe_bm pa slot hty hm ho ha hbase hfew hline hs hplain
variable {tg l : Expr} {tl : TE}
theorem pi_listK (h : X.K = K) (hl : PE X l tl) : PI X tg l (iList K tl) := by subst h; exact pi_list hl
theorem pi_tupK (h : X.K = K) (hl : PE X l tl) : PI X tg l (iTup K tl) := by subst h; exact pi_tup hl
end
/-- behind a statement: what its ways have in common -/
theorem seq_by {t u : TS} {D : Ends} {σ : L2.St} {H : Hp} (J : L2.St → Hp → Prop) (h2 : ∀ σ1 H1, J σ1 H1 → u D σ1 H1) (h1 : (∀ σ1 H1, J σ1 H1 → u D σ1 H1) → t { D with nx := u D } σ H) : tSeq t u D σ H := h1 h2
theorem if_by {c : TT} {t1 t2 u : TS} {D : Ends} {σ : L2.St} {H : Hp} (J : L2.St → Hp → Prop) (h2 : ∀ σ1 H1, J σ1 H1 → u D σ1 H1) (h1 : (∀ σ1 H1, J σ1 H1 → u D σ1 H1) → tIfS c t1 t2 { D with nx := u D } σ H) : tSeq (tIfS c t1 t2) u D σ H := h1 h2
theorem asg_by {te : TE} {i : Nat} {u : TS} {D : Ends} {σ : L2.St} {H : Hp} (J : V → Hp → Prop) (h2 : ∀ v H1, J v H1 → u D (σ.set i (some v)) H1) (h1 : (∀ v H1, J v H1 → u D (σ.set i (some v)) H1) → te σ H (fun x H1 => gName i x σ H1 (u D))) : tSeq (tAsg te (gName i)) u D σ H := h1 h2
theorem name_by {i : Nat} {v : V} {σ : L2.St} {H : Hp} {Q : L2.St → Hp → Prop} (h : Q (σ.set i (some v)) H) : gName i v σ H Q := h
/-! ### heaps -/
theorem same_upd {H : Hp} {p : Addr} {o : HO} (h : H p = none) : Same H (upd H p o) := fun b x e => by
  rw [upd_ne (ne_of_none e h)]
  exact e
/-- an object that was not there ahead may change -/
theorem same_mut {H H' : Hp} {p : Addr} {o : HO} (e : Same H H') (h : H p = none) : Same H (upd H' p o) := fun b x q => by
  rw [upd_ne (ne_of_none q h)]
  exact e b x q
/-- all but what stands at b stays -/
def Mv (b : Addr) (H H' : Hp) : Prop := ∀ a o, a ≠ b → H a = some o → H' a = some o
theorem Mv.refl (b : Addr) (H : Hp) : Mv b H H := fun _ _ _ h => h
theorem Mv.trans {b : Addr} {H H1 H2 : Hp} (x : Mv b H H1) (y : Mv b H1 H2) : Mv b H H2 := fun a o n h => y a o n (x a o n h)
theorem Mv.of {b : Addr} {H H' : Hp} (s : Same H H') : Mv b H H' := fun a o _ h => s a o h
theorem Mv.upd {b : Addr} {H H' : Hp} {o : HO} (x : Mv b H H') : Mv b H (upd H' b o) := fun a u n h => by
  rw [upd_ne n]
  exact x a u n h
theorem Mv.none {b p : Addr} {H H' : Hp} (x : Mv b H H') (n : p ≠ b) (h : H' p = none) : H p = none := by
  cases q : H p with
  | none => rfl
  | some o =>
    rw [x p o n q] at h
    cases h
/-! ### the bag: b.1 the bag, b.2 its numbers -/
def bagL (s : Addr) (i r x c : Int) : List V := [.ref s, .int i, .int r, .int x, .int c]
def Bag (b : Addr × Addr) (H : Hp) : Prop := ∃ (ns : List Int) (i r x c : Int), H b.1 = some (.lst (bagL b.2 i r x c)) ∧ H b.2 = some (.lst (ns.map V.int)) ∧ b.2 ≠ b.1 ∧ 0 ≤ i ∧ 0 ≤ x ∧ x < 2147483648
theorem Bag.same {b : Addr × Addr} {H H' : Hp} (g : Bag b H) (s : Same H H') : Bag b H' := by
  obtain ⟨ns, i, r, x, c, h1, h2, h3, h4, h5, h6⟩ := g
  exact ⟨ns, i, r, x, c, s _ _ h1, s _ _ h2, h3, h4, h5, h6⟩
theorem Bag.ne {b : Addr × Addr} {p : Addr} {H : Hp} (g : Bag b H) (h : H p = none) : p ≠ b.1 := by
  obtain ⟨ns, i, r, x, c, h1, _⟩ := g
  exact fun z => by rw [z, h1] at h; cases h
theorem Bag.ne2 {b : Addr × Addr} {p : Addr} {H : Hp} (g : Bag b H) (h : H p = none) : p ≠ b.2 := by
  obtain ⟨ns, i, r, x, c, _, h1, _⟩ := g
  exact fun z => by rw [z, h1] at h; cases h
theorem Bag.upd {b : Addr × Addr} {p : Addr} {o : HO} {H : Hp} (g : Bag b H) (h1 : p ≠ b.1) (h2 : p ≠ b.2) : Bag b (L2.upd H p o) := by
  obtain ⟨ns, i, r, x, c, e1, e2, h3⟩ := g
  exact ⟨ns, i, r, x, c, by rw [upd_ne h1.symm]; exact e1, by rw [upd_ne h2.symm]; exact e2, h3⟩
/-- a draw: its bag, its bound -/
def spPick : Sp := fun vs H Q _ => ∃ (b : Addr × Addr) (top : Int), vs = [.ref b.1, .int top] ∧ Bag b H ∧ 0 < top ∧ top < 1073741824 ∧ ∀ (H' : Hp) (d : Int), Mv b.1 H H' → Bag b H' → 0 ≤ d → d < top → Q (.int d) H'
/-- the bag of a script -/
def spBag (K : PySem.W.Frag) : Sp := fun vs H Q _ => ∃ (a : Addr) (ns : List Int), vs = [.ref a] ∧ SqL K H a (ns.map V.int) ∧ ∀ (H' : Hp) (b : Addr × Addr), Same H H' → H b.1 = none → Bag b H' → Q (.ref b.1) H'
/-- one of the list's things -/
def spOf (K : PySem.W.Frag) : Sp := fun vs H Q _ => ∃ (b : Addr × Addr) (l : Addr) (xs : List V), vs = [.ref b.1, .ref l] ∧ Bag b H ∧ l ≠ b.1 ∧ H l = some (.lst xs) ∧ 0 < xs.length ∧ xs.length < 1000 ∧ ∀ (H' : Hp) (v : V), Mv b.1 H H' → Bag b H' → v ∈ xs → Q v H'
section
variable {K : PySem.W.Frag}
def tyN : PyData → String
  | .none => "NoneType"
  | .bool _ => "bool"
  | .int _ => "int"
  | .str _ => "str"
  | .list _ => "list"
  | .tuple _ => "tuple"
  | .dict _ => "dict"
theorem ty_dp {H : Hp} {x : V} {d : PyData} (h : Dp K H x d) : TyX K H x (.type (tyN d)) := by
  cases h with
  | non => exact .base .non
  | bl b => exact .base (.bl b)
  | int i => exact .base (.int i)
  | str x => exact .base (.str x)
  | lst hs _ =>
    rcases hs with (h | ⟨o, h⟩) | ⟨o, its, n, h1, h2, _⟩
    · exact .base (.lst h)
    · exact .base (.frz h)
    · exact .kList h1 h2
  | tup hs _ =>
    rcases hs with (h | ⟨o, h⟩) | ⟨o, its, n, h1, h2, _⟩
    · exact .base (.tup h)
    · exact .fTuple h
    · exact .kTuple h1 h2
theorem same_t {H H' : Hp} {a : Addr} {xs : List V} (e : Same H H') (h : SqT K H a xs) : SqT K H' a xs := by
  rcases h with (h | ⟨o, h⟩) | h
  · exact .inl (.inl (e _ _ h))
  · exact .inl (.inr ⟨o, e _ _ h⟩)
  · exact .inr h
mutual
theorem dp_same {H H' : Hp} (e : Same H H') : ∀ {d : PyData} {x : V}, Dp K H x d → Dp K H' x d
  | _, _, .non => .non
  | _, _, .bl b => .bl b
  | _, _, .int i => .int i
  | _, _, .str s => .str s
  | _, _, .lst hs ha => .lst (e.seq hs) (dpa_same e ha)
  | _, _, .tup hs ha => .tup (same_t e hs) (dpa_same e ha)
theorem dpa_same {H H' : Hp} (e : Same H H') : ∀ {ds : List PyData} {xs : List V}, DpAll K H xs ds → DpAll K H' xs ds
  | _, _, .nil => .nil
  | _, _, .cons h t => .cons (dp_same e h) (dpa_same e t)
end
theorem dpa_len {H : Hp} : ∀ {xs : List V} {ds : List PyData}, DpAll K H xs ds → xs.length = ds.length
  | _, _, .nil => rfl
  | _, _, .cons _ t => congrArg (· + 1) (dpa_len t)
theorem dpa_get {H : Hp} : ∀ {xs : List V} {ds : List PyData} {i : Nat} {d : PyData}, DpAll K H xs ds → ds[i]? = some d → ∃ x, xs[i]? = some x ∧ Dp K H x d
  | _, _, _, _, .nil, e => by simp at e
  | _, _, 0, _, .cons h _, e => by simp at e; subst e; exact ⟨_, rfl, h⟩
  | _, _, i + 1, d, .cons _ t, e => by
    obtain ⟨x, h1, h2⟩ := dpa_get (i := i) (d := d) t (by simpa using e)
    exact ⟨x, by simpa using h1, h2⟩
/-- data of at most so many levels -/
def Dn : Nat → PyData → Prop
  | 0, _ => False
  | n + 1, d => (∃ b, d = .bool b) ∨ (∃ i, d = .int i) ∨ (∃ s, d = .str s) ∨ d = .none ∨ ∃ ds, (d = .list ds ∨ d = .tuple ds) ∧ ds.length ≤ 100000 ∧ ∀ e ∈ ds, Dn n e
def spSame (K : PySem.W.Frag) (n : Nat) : Sp := fun vs H Q _ => ∃ (x y : V) (d : PyData), vs = [x, y] ∧ Dp K H x d ∧ Dp K H y d ∧ Dn n d ∧ SeqAt.shaped d = true ∧ ∀ H', Same H H' → Q (.bl true) H'
theorem tYes_by {σ : L2.St} {H : Hp} {Q : Bool → Hp → Prop} (h : Q true H) : tYes σ H Q := h
theorem canLay_mem : ∀ {ds : List PyData} {e : PyData}, e ∈ ds → PyData.canLayAll0 ds = true → PyData.canLay0 e = true
  | d :: ds, e, hm, h => by
    have h : (PyData.canLay0 d && PyData.canLayAll0 ds) = true := h
    rw [Bool.and_eq_true] at h
    rcases List.mem_cons.mp hm with rfl | hm
    · exact h.1
    · exact canLay_mem hm h.2
theorem depth_mem : ∀ {ds : List PyData} {e : PyData}, e ∈ ds → PyData.depth e ≤ PyData.depthAll ds
  | d :: ds, e, hm => by
    show _ ≤ max (PyData.depth d) (PyData.depthAll ds)
    rcases List.mem_cons.mp hm with rfl | hm
    · exact Nat.le_max_left _ _
    · exact Nat.le_trans (depth_mem hm) (Nat.le_max_right _ _)
theorem shaped_mem {ds : List PyData} {e : PyData} (hm : e ∈ ds) (h : SeqAt.shaped (.list ds) = true ∨ SeqAt.shaped (.tuple ds) = true) : SeqAt.shaped e = true := by
  have k : PyData.canLayAll0 ds = true ∧ PyData.depthAll ds + 1 ≤ 64 := by
    rcases h with h | h
    · exact ⟨SeqAt.canLay_of_shaped h, SeqAt.depth_of_shaped h⟩
    · exact ⟨SeqAt.canLay_of_shaped h, SeqAt.depth_of_shaped h⟩
  unfold SeqAt.shaped
  rw [Bool.and_eq_true]
  exact ⟨canLay_mem hm k.1, decide_eq_true (by have := depth_mem hm; omega)⟩
theorem ifT {A B : Prop} {b : Bool} (e : b = true) (h : A) : if b = true then A else B := by rw [if_pos e]; exact h
theorem ifF {A B : Prop} {b : Bool} (e : b = false) (h : B) : if b = true then A else B := by rw [e]; exact iteF h
end
end WB
namespace WB
open PySem PySem.Spec PyProof.Rows L2
section
variable {K : PySem.W.Frag}
theorem for_enumK {a : Addr} {xs : List V} {g : TG} {tb : TS} {D : Ends} {σ : L2.St} {H : Hp} (Pv : Nat → L2.St → Hp → Prop) (h0 : Pv 0 σ H) (hl : ∀ i σ H, i ≤ xs.length → Pv i σ H → SqL K H a xs)
    (hs : ∀ i x T σ H, xs[i]? = some x → Pv i σ H → H T = none → g (.ref T) σ (upd H T (.tup [.int (i : Nat), x])) fun σ2 H2 => tb { D with nx := Pv (i + 1), ct := Pv (i + 1), bk := D.nx } σ2 H2) (hd : ∀ σ H, Pv xs.length σ H → D.nx σ H) :
    ∃ W : Nat → Nat → L2.St → Hp → Prop, (∃ m, W 0 m σ H) ∧ ∀ i m σ H, W i m σ H →
      ((Ite K a).stop i H ∧ D.nx σ H) ∨ ((Ite K a).go i H ∧ ∃ N : L2.St → Hp → Prop, (∀ σ' H', N σ' H' → ∃ m', m' < m ∧ W (i + 1) m' σ' H') ∧ ∀ x H', (Ite K a).yld i H x H' → g x σ H' fun σ2 H2 => tb { D with nx := N, ct := N, bk := D.nx } σ2 H2) := by
  refine ⟨fun i m σ H => m = xs.length - i ∧ i ≤ xs.length ∧ Pv i σ H, ⟨xs.length, by simp, Nat.zero_le _, h0⟩, ?_⟩
  rintro i m σ H ⟨rfl, hi, p⟩
  have q := hl i σ H hi p
  by_cases hlt : i < xs.length
  · refine .inr ⟨⟨xs, xs[i], q, by simp [hlt]⟩, Pv (i + 1), fun σ' H' p' => ⟨xs.length - (i + 1), by omega, rfl, hlt, p'⟩, fun x H' y => ?_⟩
    obtain ⟨T, z, rfl, nT, rfl, y⟩ := y
    exact hs i z T σ H (y xs q) p nT
  · have e : i = xs.length := by omega
    subst e
    exact .inl ⟨⟨xs, q, Nat.le_refl _⟩, hd σ H p⟩
end
/-! ### bits, numbers in bits, seals: the mathematics -/
def Bits (ns : List Int) : Prop := ∀ z ∈ ns, z = 0 ∨ z = 1
/-- a number in so many bits, the one of greatest worth first -/
def wr : Nat → Int → List Int
  | 0, _ => []
  | i + 1, n => ((n / 2 ^ i) % 2) :: wr i n
theorem wr_len : ∀ (i : Nat) (n : Int), (wr i n).length = i
  | 0, _ => rfl
  | i + 1, n => congrArg (· + 1) (wr_len i n)
theorem wr_bits : ∀ (i : Nat) (n : Int), Bits (wr i n)
  | 0, _ => fun z h => nomatch h
  | i + 1, n => fun z h => by
    rcases List.mem_cons.mp h with rfl | h
    · omega
    · exact wr_bits i n z h
theorem half (n : Int) (i : Nat) : n / 2 ^ i / 2 = n / 2 ^ (i + 1) := by
  rw [Int.pow_succ, Int.ediv_ediv_of_nonneg (by exact Int.pow_nonneg (by decide))]
/-- the register: one more bit -/
def stepR (c : Nat) (b : Int) : Nat := if ((c / 32768 : Nat) : Int) = b then c * 2 % 65536 else (c * 2 % 65536) ^^^ 4129
theorem stepR_lt (c : Nat) (b : Int) : stepR c b < 65536 := by
  unfold stepR
  have h : c * 2 % 65536 < 65536 := Nat.mod_lt _ (by decide)
  split
  · exact h
  · exact Nat.xor_lt_two_pow (n := 16) h (by decide)
def regs (bs : List Int) : Nat := bs.foldl stepR 65535
theorem regs_lt (bs : List Int) : regs bs < 65536 := by
  have : ∀ (l : List Int) (c : Nat), c < 65536 → l.foldl stepR c < 65536 := by
    intro l
    induction l with
    | nil => exact fun c h => h
    | cons b r ih => exact fun c _ => ih _ (stepR_lt c b)
  exact this bs 65535 (by decide)
def sealL (bs : List Int) : List Int := wr 16 (regs bs : Nat)
theorem take_more {α : Type} {l : List α} {i : Nat} {x : α} (h : l[i]? = some x) : l.take (i + 1) = l.take i ++ [x] := by
  rw [List.take_add_one, h]
  rfl
theorem regs_more {bs : List Int} {i : Nat} {b : Int} (h : bs[i]? = some b) : regs (bs.take (i + 1)) = stepR (regs (bs.take i)) b := by
  unfold regs
  rw [take_more h, List.foldl_append]
  rfl
theorem wr_at (c : Nat) (i : Nat) : ((c : Int) / 2 ^ i) % 2 = if c.testBit i then 1 else 0 := by
  have e : ((c : Int) / 2 ^ i) % 2 = ((c / 2 ^ i % 2 : Nat) : Int) := by
    rw [Int.natCast_emod, Int.natCast_ediv, Int.natCast_pow]
    rfl
  rw [e, Nat.testBit_eq_decide_div_mod_eq]
  have h : c / 2 ^ i % 2 < 2 := Nat.mod_lt _ (by decide)
  by_cases h1 : c / 2 ^ i % 2 = 1
  · rw [h1]; rfl
  · have h0 : c / 2 ^ i % 2 = 0 := by omega
    rw [h0]; rfl
def holdsB (ns : List Int) : Bool := decide (16 ≤ ns.length) && decide (sealL (ns.take (ns.length - 16)) = ns.drop (ns.length - 16))
theorem wr_shift (c : Nat) : wr 16 ((c * 2 % 65536 : Nat) : Int) = (wr 16 (c : Int)).drop 1 ++ [0] := by
  have e : ((c * 2 % 65536 : Nat) : Int) = (c : Int) * 2 % 65536 := by rw [Int.natCast_emod, Int.natCast_mul]; rfl
  rw [e]
  generalize (c : Int) = z
  simp only [wr, List.drop, List.cons_append, List.nil_append, List.cons.injEq, and_true]
  refine ⟨?_, ?_, ?_, ?_, ?_, ?_, ?_, ?_, ?_, ?_, ?_, ?_, ?_, ?_, ?_, ?_⟩ <;> omega
def fl (M : List Int) (k : Nat) : List Int := M.set k (1 - M.getD k 0)
theorem wr_flip (a : Nat) : wr 16 ((a ^^^ 4129 : Nat) : Int) = fl (fl (fl (wr 16 (a : Int)) 3) 10) 15 := by
  simp only [wr, wr_at, Nat.testBit_xor, fl]
  simp only [List.set, List.getD, List.getElem?_cons_succ, List.getElem?_cons_zero, Option.getD]
  have h : ∀ i : Nat, (if ((a.testBit i) ^^ true) = true then (1 : Int) else 0) = 1 - (if a.testBit i = true then 1 else 0) := by
    intro i
    cases a.testBit i <;> rfl
  have t0 : (4129 : Nat).testBit 0 = true := by decide
  have t5 : (4129 : Nat).testBit 5 = true := by decide
  have t12 : (4129 : Nat).testBit 12 = true := by decide
  have n1 : (4129 : Nat).testBit 1 = false := by decide
  have n2 : (4129 : Nat).testBit 2 = false := by decide
  have n3 : (4129 : Nat).testBit 3 = false := by decide
  have n4 : (4129 : Nat).testBit 4 = false := by decide
  have n6 : (4129 : Nat).testBit 6 = false := by decide
  have n7 : (4129 : Nat).testBit 7 = false := by decide
  have n8 : (4129 : Nat).testBit 8 = false := by decide
  have n9 : (4129 : Nat).testBit 9 = false := by decide
  have n10 : (4129 : Nat).testBit 10 = false := by decide
  have n11 : (4129 : Nat).testBit 11 = false := by decide
  have n13 : (4129 : Nat).testBit 13 = false := by decide
  have n14 : (4129 : Nat).testBit 14 = false := by decide
  have n15 : (4129 : Nat).testBit 15 = false := by decide
  simp only [t0, t5, t12, n1, n2, n3, n4, n6, n7, n8, n9, n10, n11, n13, n14, n15, Bool.xor_false, h]
/-- data of ints -/
def dI (ns : List Int) : PyData := .list (ns.map PyData.int)
theorem dpa_ints {K : PySem.W.Frag} {H : Hp} : ∀ ns : List Int, DpAll K H (ns.map V.int) (ns.map PyData.int)
  | [] => .nil
  | n :: r => .cons (.int n) (dpa_ints r)
theorem dp_ints {K : PySem.W.Frag} {H : Hp} {a : Addr} {ns : List Int} (h : SqL K H a (ns.map V.int)) : Dp K H (.ref a) (dI ns) := .lst h (dpa_ints ns)
theorem depth_ints : ∀ ns : List Int, PyData.depthAll (ns.map PyData.int) = 0
  | [] => rfl
  | n :: r => by
    show max 0 (PyData.depthAll (r.map PyData.int)) = 0
    rw [depth_ints r]
    rfl
theorem canLay_ints : ∀ ns : List Int, PyData.canLayAll0 (ns.map PyData.int) = true
  | [] => rfl
  | n :: r => by
    show (true && PyData.canLayAll0 (r.map PyData.int)) = true
    rw [canLay_ints r]
    rfl
theorem shaped_ints (ns : List Int) : SeqAt.shaped (dI ns) = true := by
  unfold SeqAt.shaped
  rw [Bool.and_eq_true]
  refine ⟨canLay_ints ns, decide_eq_true ?_⟩
  show PyData.depthAll (ns.map PyData.int) + 1 ≤ 64
  rw [depth_ints]
  decide
theorem eqv_ints (ns ms : List Int) : PyData.eqv (dI ns) (dI ms) = decide (ns = ms) := by
  have : ∀ (ns ms : List Int), PyData.eqvAll (ns.map PyData.int) (ms.map PyData.int) = decide (ns = ms) := by
    intro ns
    induction ns with
    | nil =>
      intro ms
      cases ms with
      | nil => rfl
      | cons m r => rfl
    | cons n r ih =>
      intro ms
      cases ms with
      | nil => rfl
      | cons m t =>
        show (PyData.eqv (.int n) (.int m) && PyData.eqvAll (r.map PyData.int) (t.map PyData.int)) = _
        rw [ih t]
        show ((n == m) && decide (r = t)) = _
        rw [show (n == m) = decide (n = m) from by rw [Bool.beq_eq_decide_eq], ← Bool.decide_and]
        exact decide_eq_decide.mpr ⟨fun h => by rw [h.1, h.2], fun h => List.cons.inj h⟩
  exact this ns ms
/-! ### what a law knows of the heap: the bag at b, and these -/
structure SH (b : Addr × Addr) (H : Hp) (L : List (Addr × HO)) : Prop where
  bag : Bag b H
  nb : ∀ p ∈ L, p.1 ≠ b.1 ∧ p.1 ≠ b.2
  kn : ∀ p ∈ L, H p.1 = some p.2
section
variable {b : Addr × Addr} {p : Addr} {H H' : Hp} {L L' : List (Addr × HO)} {o o' : HO}
theorem SH.same (h : SH b H L) (s : Same H H') : SH b H' L := ⟨h.bag.same s, h.nb, fun q hq => s _ _ (h.kn q hq)⟩
theorem SH.mv (h : SH b H L) (m : Mv b.1 H H') (g : Bag b H') : SH b H' L := ⟨g, h.nb, fun q hq => m _ _ (h.nb q hq).1 (h.kn q hq)⟩
theorem SH.add (h : SH b H L) (n : p ≠ b.1) (n2 : p ≠ b.2) (e : H p = some o) : SH b H ((p, o) :: L) :=
  ⟨h.bag, fun q hq => (List.mem_cons.mp hq).elim (fun z => by rw [z]; exact ⟨n, n2⟩) (h.nb q), fun q hq => (List.mem_cons.mp hq).elim (fun z => by rw [z]; exact e) (h.kn q)⟩
theorem SH.new (h : SH b H L) (n : H p = none) : SH b (upd H p o) ((p, o) :: L) := (h.same (same_upd n)).add (h.bag.ne n) (h.bag.ne2 n) upd_same
theorem SH.newS (h : SH b H L) (s : Same H H') (n : H p = none) (e : H' p = some o) : SH b H' ((p, o) :: L) := (h.same s).add (h.bag.ne n) (h.bag.ne2 n) e
theorem SH.newM (h : SH b H L) (m : Mv b.1 H H') (g : Bag b H') (n : H p = none) (e : H' p = some o) : SH b H' ((p, o) :: L) := (h.mv m g).add (h.bag.ne n) (h.bag.ne2 n) e
theorem SH.sub (h : SH b H L) (hs : ∀ q ∈ L', q ∈ L) : SH b H L' := ⟨h.bag, fun q hq => h.nb q (hs q hq), fun q hq => h.kn q (hs q hq)⟩
theorem SH.get (h : SH b H L) (hm : (p, o) ∈ L) : H p = some o := h.kn _ hm
theorem SH.ne (h : SH b H L) (hm : (p, o) ∈ L) : p ≠ b.1 := (h.nb _ hm).1
/-- the first of them is written; the others stand elsewhere -/
theorem SH.put (h : SH b H ((p, o) :: L)) (hd : ∀ q ∈ L, q.1 ≠ p) : SH b (upd H p o') ((p, o') :: L) :=
  ⟨h.bag.upd (h.nb _ (.head _)).1 (h.nb _ (.head _)).2, fun q hq => (List.mem_cons.mp hq).elim (fun z => by rw [z]; exact h.nb (p, o) (.head L)) (fun hq => h.nb q (.tail _ hq)),
    fun q hq => (List.mem_cons.mp hq).elim (fun z => by rw [z]; exact upd_same) (fun hq => by rw [upd_ne (hd q hq)]; exact h.kn q (.tail _ hq))⟩
theorem SH.apart (h : SH b H L) (n : H p = none) : ∀ q ∈ L, q.1 ≠ p := fun q hq => ne_of_none (h.kn q hq) n
theorem SH.nil (g : Bag b H) : SH b H [] := ⟨g, (fun _ h => absurd h List.not_mem_nil), (fun _ h => absurd h List.not_mem_nil)⟩
end
theorem bits_nil : Bits [] := fun _ h => nomatch h
theorem bits_app {a c : List Int} (h : Bits a) (h' : Bits c) : Bits (a ++ c) := fun z hz => (List.mem_append.mp hz).elim (h z) (h' z)
theorem bits_one {z : Int} (h : z = 0 ∨ z = 1) : Bits [z] := fun y hy => by rw [List.mem_singleton.mp hy]; exact h
theorem bits_take {a : List Int} (h : Bits a) (n : Nat) : Bits (a.take n) := fun z hz => h z (List.mem_of_mem_take hz)
theorem bits_drop {a : List Int} (h : Bits a) (n : Nat) : Bits (a.drop n) := fun z hz => h z (List.mem_of_mem_drop hz)
theorem seal_bits (ns : List Int) : Bits (sealL ns) := wr_bits _ _
theorem seal_len (ns : List Int) : (sealL ns).length = 16 := wr_len _ _
theorem cut_to_n (xs : List V) (n : Nat) : cutV xs none (some (n : Int)) = xs.take n := by
  unfold cutV
  rw [HT.sIx_none, HT.sIx_nat, List.drop_zero, Nat.sub_zero]
  by_cases h : n ≤ xs.length
  · rw [Nat.min_eq_left h]
  · rw [Nat.min_eq_right (by omega), List.take_of_length_le (Nat.le_refl _), List.take_of_length_le (by omega)]
theorem cut_from_n (xs : List V) (n : Nat) : cutV xs (some (n : Int)) none = xs.drop n := by
  unfold cutV
  rw [HT.sIx_none, HT.sIx_nat]
  by_cases h : n ≤ xs.length
  · rw [Nat.min_eq_left h]
    exact List.take_of_length_le (by simp)
  · rw [Nat.min_eq_right (by omega), List.drop_of_length_le (Nat.le_refl _), List.drop_of_length_le (by omega)]
    exact List.take_nil
theorem sIx_back (l d n : Nat) (h : 0 < n) : HT.sIx l d (some (-(n : Int))) = l - n := by
  show (if -(n : Int) < 0 then (-(n : Int) + (l : Int)).toNat else min (-(n : Int)).toNat l) = l - n
  rw [if_pos (by omega)]
  omega
theorem cut_to_b (xs : List V) (n : Nat) (h : 0 < n) : cutV xs none (some (-(n : Int))) = xs.take (xs.length - n) := by
  unfold cutV
  rw [HT.sIx_none, sIx_back _ _ n h, List.drop_zero, Nat.sub_zero]
theorem cut_from_b (xs : List V) (n : Nat) (h : 0 < n) : cutV xs (some (-(n : Int))) none = xs.drop (xs.length - n) := by
  unfold cutV
  rw [HT.sIx_none, sIx_back _ _ n h]
  exact List.take_of_length_le (by simp)
theorem sz4 {n : Nat} (h : n ≤ 100000) : n ≤ sizeLine := Nat.le_trans h (by decide)
theorem sz4l {n : Nat} (h : n < 100000) : n < sizeLine := Nat.lt_of_lt_of_le h (by decide)
theorem holds_sealed {ns : List Int} : holdsB (ns ++ sealL ns) = true := by
  unfold holdsB
  have l : (ns ++ sealL ns).length = ns.length + 16 := by rw [List.length_append, seal_len]
  rw [l, Nat.add_sub_cancel, List.take_left, List.drop_left]
  simp
theorem holds_short {ns : List Int} (h : ns.length < 16) : holdsB ns = false := by
  unfold holdsB
  rw [decide_eq_false (by omega), Bool.false_and]
end WB
namespace WB
open PySem PySem.Spec PyProof.Rows L2
def topS (i : Nat) : Stmt := PySem.Challenge.pw_warbleline_k05_whole_few_hurt_bits_are_t.main.body.getD i (.Pass ⟨0, 0, 0, 0⟩)
abbrev s_LineError : Stmt := topS 1
abbrev s_BadBit : Stmt := topS 2
abbrev s_check_bits : Stmt := topS 4
abbrev s_moved_on : Stmt := topS 8
abbrev s_seal_of : Stmt := topS 9
abbrev s_sealed : Stmt := topS 10
abbrev s_holds : Stmt := topS 11
abbrev s__law_bag : Stmt := topS 13
abbrev s__law_pick : Stmt := topS 14
abbrev s__law_of : Stmt := topS 15
abbrev s__law_same : Stmt := topS 16
abbrev s__law_bits : Stmt := topS 17
abbrev s__law_flipped : Stmt := topS 18
abbrev s_law : Stmt := topS 19
section
variable {P : Program} {w : World} {K : PySem.W.Frag} {mg : Str → Option Value} {base : Heap}
theorem sc__law_bag : FnScope ["_law_script"] ["_law_script"] (defScope s__law_bag) := ⟨rfl, rfl, rfl, by decide +kernel, rfl, by decide +kernel, by decide +kernel⟩
theorem ok__law_bag {f : Addr} {fd : FuncData} {k : Nat} (F : Fun K "_law_bag" "_law_bag" s__law_bag f fd) (n_len : mg "len" = none) (n_list : mg "list" = none) : FnOk P w K mg base CX0 (k + 1) f fd ["_law_script"] (spBag K) := by
  have sc := sc__law_bag
  refine F.ok sc (fun vs H Q E h => ?_) (fun cdv A outer s H vs Q E hr h => ?_)
  · obtain ⟨a, ns, rfl, _⟩ := h
    rfl
  · obtain ⟨a, ns, rfl, hS, q⟩ := h
    refine ⟨_, (pss_one (ps_ret (pe_lst (pa_cons (pe_callTy (call_listK K rfl) (by rfl) n_list (by decide +kernel) (pa_cons (pe_slice (sl_listK K rfl) (pv 0) po_none (po_some pe_int)) pa_nil)) (pa_cons pe_int (pa_cons pe_int (pa_cons (pe_op op_add pe_int (pe_callB (call_lenK K rfl) (by rfl) n_len PySem.boot_len (pa_cons (pe_slice (sl_listK K rfl) (pv 0) po_none (po_some pe_int)) pa_nil))) (pa_cons pe_int pa_nil)))))))), ?_⟩
    refine ⟨_, rfl, 63, rfl, a, _, rfl, hS, fun p1 n1 => ?_⟩
    refine ⟨p1, _, rfl, .inl (SqL.of upd_same), fun p2 n2 => ?_⟩
    have s1 : Same H (upd H p1 (.lst (cutV (ns.map V.int) none (some 63)))) := same_upd n1
    have s2 := s1.trans (same_upd (o := .lst (cutV (ns.map V.int) none (some 63))) n2)
    refine ⟨_, rfl, 63, rfl, a, _, rfl, s2.seq hS, fun p3 n3 => ?_⟩
    have s3 := s2.trans (same_upd (o := .lst (cutV (ns.map V.int) none (some 63))) n3)
    refine ⟨p3, _, rfl, .inl (SqL.of upd_same), _, _, rfl, rfl, (by show 5 ≤ sizeLine; decide), fun p4 n4 => ?_⟩
    have s4 := s3.trans (same_upd (o := .lst (bagL p2 0 0 (977 + ((cutV (ns.map V.int) none (some 63)).length : Int)) 0)) n4)
    have e0 : cutV (ns.map V.int) none (some 63) = (ns.take 63).map V.int := by
      unfold cutV
      rw [HT.sIx_none, show HT.sIx (ns.map V.int).length (ns.map V.int).length (some 63) = min 63 (ns.map V.int).length from HT.sIx_nat _ _ 63]
      simp only [List.drop_zero, Nat.sub_zero, List.length_map, List.map_take]
      by_cases h : ns.length ≤ 63
      · rw [Nat.min_eq_right h, List.take_of_length_le (by simp), List.take_of_length_le (by simpa using h)]
      · rw [Nat.min_eq_left (by omega)]
    have n42 : p4 ≠ p2 := fun z => by
      rw [z, upd_ne (ne_of_none upd_same n3), upd_same] at n4
      cases n4
    refine q _ (p4, p2) s4 (s3.free n4) ⟨ns.take 63, 0, 0, _, 0, upd_same, ?_, n42.symm, by omega, ?_, ?_⟩
    · rw [upd_ne n42.symm, upd_ne (ne_of_none upd_same n3), upd_same, e0]
    · omega
    · rw [e0, List.length_map, List.length_take]
      omega
theorem sc__law_pick : FnScope ["_law_bag_here", "_law_top", "_law_cell", "_law_digit"] ["_law_bag_here", "_law_top"] (defScope s__law_pick) := ⟨rfl, rfl, rfl, by decide +kernel, rfl, by decide +kernel, by decide +kernel⟩
theorem ok__law_pick {f : Addr} {fd : FuncData} {k : Nat} (F : Fun K "_law_pick" "_law_pick" s__law_pick f fd) (n_len : mg "len" = none) : FnOk P w K mg base CX0 (k + 1) f fd ["_law_bag_here", "_law_top"] spPick := by
  have sc := sc__law_pick
  refine F.ok sc (fun vs H Q E h => ?_) (fun cdv A outer s H vs Q E hr h => ?_)
  · obtain ⟨b, top, rfl, _⟩ := h
    rfl
  · obtain ⟨⟨b, sa⟩, top, rfl, ⟨ns, i, r, x, c, hb, hs, hne, hi, hx0, hx1⟩, ht0, ht1, q⟩ := h
    refine ⟨_, (pss_cons (ps_if (PW.pt (pw_and (pt_cmpR op_lt (pe_ix (ix_listK K rfl) (pv 0) pe_int (fun _ _ => rfl)) (pv 1) (nomark _)) (pw_and1 (pt_cmpR op_lt (pe_ix (ix_listK K rfl) (pv 0) pe_int (fun _ _ => rfl)) (pe_callB (call_lenK K rfl) (by rfl) n_len PySem.boot_len (pa_cons (pe_ix (ix_listK K rfl) (pv 0) pe_int (fun _ _ => rfl)) pa_nil)) (nomark _)))))
  (pss_cons (ps_set (i := 2) sc.nd rfl (.inl rfl) (pe_ix (ix_listK K rfl) (pe_ix (ix_listK K rfl) (pv 0) pe_int (fun _ _ => rfl)) (pe_ix (ix_listK K rfl) (pv 0) pe_int (fun _ _ => rfl)) (fun _ _ => rfl)))
 (pss_cons (ps_asg (pe_op op_add (pe_ix (ix_listK K rfl) (pv 0) pe_int (fun _ _ => rfl)) pe_int) (pg_sub (pv 0) pe_int set_list))
 (pss_cons (ps_asg (pe_op op_mod (pe_op op_add (pe_op op_add (pe_op op_mul (pe_ix (ix_listK K rfl) (pv 0) pe_int (fun _ _ => rfl)) pe_int) (pv 2)) (pe_ix (ix_listK K rfl) (pv 0) pe_int (fun _ _ => rfl))) pe_int) (pg_sub (pv 0) pe_int set_list))
 (pss_one (ps_asg (pe_ifExp (pt_cmpR op_ge (pv 2) (pe_op op_pow pe_int pe_int) (nomark _)) (pv 2) pe_int) (pg_sub (pv 0) pe_int set_list))))))
  pss_nil)
 (pss_cons (ps_if (pt_cmpR op_ge (pe_ix (ix_listK K rfl) (pv 0) pe_int (fun _ _ => rfl)) (pv 1) (nomark _))
  (pss_cons (ps_set (i := 3) sc.nd rfl (.inl rfl) (pe_op op_mod (pe_ix (ix_listK K rfl) (pv 0) pe_int (fun _ _ => rfl)) (pv 1)))
 (pss_cons (ps_asg (pe_op op_fdiv (pe_ix (ix_listK K rfl) (pv 0) pe_int (fun _ _ => rfl)) (pv 1)) (pg_sub (pv 0) pe_int set_list))
 (pss_one (ps_ret (pv 3)))))
  pss_nil)
 (pss_cons (ps_asg (pe_op op_add (pe_ix (ix_listK K rfl) (pv 0) pe_int (fun _ _ => rfl)) pe_int) (pg_sub (pv 0) pe_int set_list))
 (pss_cons (ps_asg (pe_op op_mod (pe_op op_add (pe_op op_add (pe_op op_add (pe_op op_pow (pe_ix (ix_listK K rfl) (pv 0) pe_int (fun _ _ => rfl)) pe_int) (pe_op op_mul pe_int (pe_ix (ix_listK K rfl) (pv 0) pe_int (fun _ _ => rfl)))) (pe_op op_fdiv (pe_ix (ix_listK K rfl) (pv 0) pe_int (fun _ _ => rfl)) pe_int)) pe_int) pe_int) (pg_sub (pv 0) pe_int set_list))
 (pss_one (ps_ret (pe_op op_mod (pe_op op_fdiv (pe_ix (ix_listK K rfl) (pv 0) pe_int (fun _ _ => rfl)) pe_int) (pv 1)))))))), ?_⟩
    refine seq_by (J := fun σ1 H1 => ∃ (y2 : Option V) (i r x c : Int), σ1 = [some (.ref b), some (.int top), y2, none] ∧ H1 b = some (.lst (bagL sa i r x c)) ∧ H1 sa = some (.lst (ns.map V.int)) ∧ Mv b H H1 ∧ 0 ≤ i ∧ 0 ≤ x ∧ x < 2147483648) ?_ (fun rest => ?_)
    · rintro σ1 H1 ⟨y2, i, r, x, c, rfl, hb, hs, mv, hi, hx0, hx1⟩
      refine ⟨_, rfl, b, _, 2, .int r, rfl, rfl, SqL.of hb, rfl, _, rfl, r, top, rfl, rfl, _, rfl, ite2 (fun e => ?_) (fun e => ?_)⟩
      · refine ⟨_, rfl, b, _, 2, .int r, rfl, rfl, SqL.of hb, rfl, _, rfl, r, top, rfl, rfl, ht0, ?_⟩
        refine ⟨_, rfl, b, _, 2, .int r, rfl, rfl, SqL.of hb, rfl, _, rfl, r, top, rfl, rfl, ⟨ht0, ht1⟩, ?_⟩
        refine ⟨_, rfl, b, _, 2, 2, rfl, rfl, hb, rfl, ?_⟩
        refine ⟨_, rfl, ?_⟩
        refine q _ _ mv.upd ⟨ns, i, _, x, c, upd_same, ?_, hne, hi, hx0, hx1⟩ (Int.emod_nonneg _ (by omega)) (Int.emod_lt_of_pos _ ht0)
        rw [upd_ne hne]
        exact hs
      · refine ⟨_, rfl, b, _, 4, .int c, rfl, rfl, SqL.of hb, rfl, c, 1, rfl, rfl, _, rfl, b, _, 4, 4, rfl, rfl, hb, rfl, ?_⟩
        have hb2 : upd H1 b (.lst (bagL sa i r x (c + 1))) b = some (.lst (bagL sa i r x (c + 1))) := upd_same
        refine ⟨_, rfl, b, _, 3, .int x, rfl, rfl, SqL.of hb2, rfl, x, 3, rfl, rfl, ⟨by decide, by decide, by omega⟩, ?_⟩
        refine ⟨_, rfl, b, _, 4, .int (c + 1), rfl, rfl, SqL.of hb2, rfl, 40503, c + 1, rfl, rfl, .inl ⟨by decide, by decide⟩, _, _, rfl, rfl, ?_⟩
        refine ⟨_, rfl, b, _, 3, .int x, rfl, rfl, SqL.of hb2, rfl, x, 65537, rfl, rfl, ⟨by decide, by decide⟩, _, _, rfl, rfl, _, _, rfl, rfl, _, _, rfl, rfl, (by show (0 : Int) < 2147483629; decide), ?_⟩
        refine ⟨_, rfl, b, _, 3, 3, rfl, rfl, hb2, rfl, ?_⟩
        rw [upd_upd]
        obtain ⟨z, hz⟩ : ∃ z, (x ^ Int.toNat 3 + 40503 * (c + 1) + x / 65537 + 11) % 2147483629 = z := ⟨_, rfl⟩
        have ez : (bagL sa i r x (c + 1)).set 3 ((fun i j => V.int (i % j)) (x ^ Int.toNat 3 + 40503 * (c + 1) + x / 65537 + 11) 2147483629) = bagL sa i r z (c + 1) := by rw [← hz]; rfl
        rw [ez]
        have z0 : 0 ≤ z := by rw [← hz]; exact Int.emod_nonneg _ (by decide)
        have z1 : z < 2147483648 := by
          have : z < 2147483629 := by rw [← hz]; exact Int.emod_lt_of_pos _ (by decide)
          omega
        have hb3 : upd H1 b (.lst (bagL sa i r z (c + 1))) b = some (.lst (bagL sa i r z (c + 1))) := upd_same
        refine ⟨_, rfl, b, _, 3, .int z, rfl, rfl, SqL.of hb3, rfl, z, 16, rfl, rfl, ⟨by decide, by decide⟩, _, rfl, _, top, rfl, rfl, ht0, ?_⟩
        refine q _ _ mv.upd ⟨ns, i, r, z, c + 1, upd_same, ?_, hne, hi, z0, z1⟩ (Int.emod_nonneg _ (by omega)) (Int.emod_lt_of_pos _ ht0)
        rw [upd_ne hne]
        exact hs
    · refine ⟨_, rfl, b, _, 2, .int r, rfl, rfl, SqL.of hb, rfl, _, rfl, r, top, rfl, rfl, _, rfl, ite2 (fun e => ?_) (fun e => ?_)⟩
      · refine ⟨_, rfl, b, _, 1, .int i, rfl, rfl, SqL.of hb, rfl, _, rfl, b, _, 0, .ref sa, rfl, rfl, SqL.of hb, rfl, sa, _, rfl, .inl (SqL.of hs), i, _, rfl, rfl, _, rfl, ite2 (fun e2 => ?_) (fun e2 => ?_)⟩
        · have hlt : i < (ns.length : Int) := by
            have := of_decide_eq_true e2
            rw [List.length_map] at this
            exact this
          obtain ⟨z, hz⟩ : ∃ z, ns[i.toNat]? = some z := ⟨_, List.getElem?_eq_getElem (by omega)⟩
          have hat : atI (ns.map V.int) i = some (.int z) := by
            have := atI_nat (xs := ns.map V.int) (j := i.toNat) (v := .int z) (by rw [List.getElem?_map, hz]; rfl)
            rwa [Int.toNat_of_nonneg hi] at this
          refine ⟨_, rfl, b, _, 0, .ref sa, rfl, rfl, SqL.of hb, rfl, _, rfl, b, _, 1, .int i, rfl, rfl, SqL.of hb, rfl, sa, _, i, _, rfl, rfl, SqL.of hs, hat, ?_⟩
          refine ⟨_, rfl, b, _, 1, .int i, rfl, rfl, SqL.of hb, rfl, i, 1, rfl, rfl, _, rfl, b, _, 1, 1, rfl, rfl, hb, rfl, ?_⟩
          have hb2 : upd H b (.lst (bagL sa (i + 1) r x c)) b = some (.lst (bagL sa (i + 1) r x c)) := upd_same
          refine ⟨_, rfl, b, _, 3, .int x, rfl, rfl, SqL.of hb2, rfl, x, 48271, rfl, rfl, .inr ⟨by decide, by decide⟩, _, rfl, _, z, rfl, rfl, ?_⟩
          refine ⟨_, rfl, b, _, 1, .int (i + 1), rfl, rfl, SqL.of hb2, rfl, _, _, rfl, rfl, _, _, rfl, rfl, (by show (0 : Int) < 2147483629; decide), ?_⟩
          refine ⟨_, rfl, b, _, 3, 3, rfl, rfl, hb2, rfl, ?_⟩
          rw [upd_upd]
          obtain ⟨y, hy⟩ : ∃ y, (x * 48271 + z + (i + 1)) % 2147483629 = y := ⟨_, rfl⟩
          have ey : (bagL sa (i + 1) r x c).set 3 ((fun i j => V.int (i % j)) (x * 48271 + z + (i + 1)) 2147483629) = bagL sa (i + 1) r y c := by rw [← hy]; rfl
          rw [ey]
          have y0 : 0 ≤ y := by rw [← hy]; exact Int.emod_nonneg _ (by decide)
          have y1 : y < 2147483648 := by
            have : y < 2147483629 := by rw [← hy]; exact Int.emod_lt_of_pos _ (by decide)
            omega
          have hb3 : upd H b (.lst (bagL sa (i + 1) r y c)) b = some (.lst (bagL sa (i + 1) r y c)) := upd_same
          have hne2 : ∀ o : HO, upd H b o sa = some (.lst (ns.map V.int)) := fun o => by
            rw [upd_ne hne]
            exact hs
          refine ⟨_, rfl, 10, 18, rfl, rfl, ⟨by decide, by decide, by decide⟩, z, _, rfl, rfl, _, rfl, ite2 (fun e3 => ?_) (fun e3 => ?_)⟩
          · refine ⟨_, rfl, _, rfl, b, _, 2, 2, rfl, rfl, hb3, rfl, ?_⟩
            rw [upd_upd]
            exact rest _ _ ⟨some (.int z), i + 1, z, y, c, rfl, upd_same, hne2 _, (Mv.refl _ _).upd, by omega, y0, y1⟩
          · refine ⟨_, rfl, b, _, 2, 2, rfl, rfl, hb3, rfl, ?_⟩
            rw [upd_upd]
            exact rest _ _ ⟨some (.int z), i + 1, 0, y, c, rfl, upd_same, hne2 _, (Mv.refl _ _).upd, by omega, y0, y1⟩
        · exact rest _ _ ⟨none, i, r, x, c, rfl, hb, hs, Mv.refl _ _, hi, hx0, hx1⟩
      · exact rest _ _ ⟨none, i, r, x, c, rfl, hb, hs, Mv.refl _ _, hi, hx0, hx1⟩
theorem sc__law_of : FnScope ["_law_bag_here", "_law_some"] ["_law_bag_here", "_law_some"] (defScope s__law_of) := ⟨rfl, rfl, rfl, by decide +kernel, rfl, by decide +kernel, by decide +kernel⟩
theorem ok__law_of {f : Addr} {fd : FuncData} {k : Nat} (F : Fun K "_law_of" "_law_of" s__law_of f fd) (n_len : mg "len" = none) (c__law_pick : Cal P w K mg base k "_law_pick" ["_law_bag_here", "_law_top"] spPick) : FnOk P w K mg base CX0 (k + 1) f fd ["_law_bag_here", "_law_some"] (spOf K) := by
  have sc := sc__law_of
  refine F.ok sc (fun vs H Q E h => ?_) (fun cdv A outer s H vs Q E hr h => ?_)
  · obtain ⟨b, l, xs, rfl, _⟩ := h
    rfl
  · obtain ⟨b, l, xs, rfl, hB, hne, hl, h0, h1, q⟩ := h
    refine ⟨_, (pss_one (ps_ret (pe_ix (ix_listK K rfl) (pv 1) (pe_callC c__law_pick hr (by rfl) (pa_cons (pv 0) (pa_cons (pe_callB (call_lenK K rfl) (by rfl) n_len PySem.boot_len (pa_cons (pv 1) pa_nil)) pa_nil))) (fun _ _ => rfl)))), ?_⟩
    refine ⟨_, rfl, _, rfl, _, rfl, l, xs, rfl, .inl (SqL.of hl), b, _, rfl, hB, by omega, by omega, fun H' d mv hB' d0 d1 => ?_⟩
    obtain ⟨v, hv⟩ : ∃ v, xs[d.toNat]? = some v := ⟨_, List.getElem?_eq_getElem (by omega)⟩
    have hat : atI xs d = some v := by
      have := atI_nat (xs := xs) (j := d.toNat) (v := v) hv
      rwa [Int.toNat_of_nonneg d0] at this
    exact ⟨l, xs, d, v, rfl, rfl, SqL.of (mv l _ hne hl), hat, q H' v mv hB' (List.mem_of_getElem? hv)⟩
theorem sc__law_same : FnScope ["_law_found", "_law_due", "_law_spot"] ["_law_found", "_law_due"] (defScope s__law_same) := ⟨rfl, rfl, rfl, by decide +kernel, rfl, by decide +kernel, by decide +kernel⟩
theorem ok__law_same {f : Addr} {fd : FuncData} (F : Fun K "_law_same" "_law_same" s__law_same f fd) (gS : mg "_law_same" = some (.ref f)) (bS : Binds K fd ["_law_found", "_law_due"] []) (n_len : mg "len" = none) (n_all : mg "all" = none) (n_bool : mg "bool" = none) (n_int : mg "int" = none)
    (n_isinstance : mg "isinstance" = none) (n_list : mg "list" = none) (n_range : mg "range" = none) (n_str : mg "str" = none) (n_tuple : mg "tuple" = none) : ∀ n : Nat, FnOk P w K mg base CX0 n f fd ["_law_found", "_law_due"] (spSame K n)
  | 0 => ⟨fun vs H Q E h => by obtain ⟨x, y, d, _, _, _, h, _⟩ := h; exact h.elim, fun A outer s H args us vs Q E hr e0 bt r h => by obtain ⟨x, y, d, _, _, _, h, _⟩ := h; exact h.elim⟩
  | n + 1 => by
    have c__law_same : Cal P w K mg base n "_law_same" ["_law_found", "_law_due"] (spSame K n) := ⟨f, fd, ok__law_same F gS bS n_len n_all n_bool n_int n_isinstance n_list n_range n_str n_tuple n, gS, F.kp, bS⟩
    have sc := sc__law_same
    refine F.ok sc (fun vs H Q E h => ?_) (fun cdv A outer s H vs Q E hr h => ?_)
    · obtain ⟨x, y, d, rfl, _⟩ := h
      rfl
    · obtain ⟨x, y, d, rfl, dx, dy, dn, sd, q⟩ := h
      have tx := ty_dp dx
      have ty := ty_dp dy
      refine ⟨_, (pss_cons (ps_if (pt_cmpR op_isN (pv 1) pe_non (nomark _))
  (pss_one (ps_ret (pe_cmpR op_isN (pv 0) pe_non (nomark _))))
  pss_nil)
 (pss_cons (ps_if (PW.pt (pw_or (pt_val (pe_callB (call_isiK1 K rfl) (by rfl) n_isinstance (by decide +kernel) (pa_cons (pv 1) (pa_cons (pe_bltn (v := .ty "bool") (by rfl) n_bool (by decide +kernel) rfl) pa_nil)))) (pw_or1 (pt_val (pe_callB (call_isiK1 K rfl) (by rfl) n_isinstance (by decide +kernel) (pa_cons (pv 0) (pa_cons (pe_bltn (v := .ty "bool") (by rfl) n_bool (by decide +kernel) rfl) pa_nil)))))))
  (pss_one (ps_ret (pe_and (pe_callB (call_isiK1 K rfl) (by rfl) n_isinstance (by decide +kernel) (pa_cons (pv 1) (pa_cons (pe_bltn (v := .ty "bool") (by rfl) n_bool (by decide +kernel) rfl) pa_nil))) (pe_and (pe_callB (call_isiK1 K rfl) (by rfl) n_isinstance (by decide +kernel) (pa_cons (pv 0) (pa_cons (pe_bltn (v := .ty "bool") (by rfl) n_bool (by decide +kernel) rfl) pa_nil))) (pe_one (pe_cmpR (op_eqDK K rfl hr.units) (pv 0) (pv 1) (nomark _)))))))
  pss_nil)
 (pss_cons (ps_if (pt_val (pe_callB (call_isiTK K rfl) (by rfl) n_isinstance (by decide +kernel) (pa_cons (pv 1) (pa_cons (pe_tup (pa_cons (pe_bltn (v := .ty "int") (by rfl) n_int (by decide +kernel) rfl) (pa_cons (pe_bltn (v := .ty "str") (by rfl) n_str (by decide +kernel) rfl) pa_nil))) pa_nil))))
  (pss_one (ps_ret (pe_and (pe_callB (call_isiTK K rfl) (by rfl) n_isinstance (by decide +kernel) (pa_cons (pv 0) (pa_cons (pe_tup (pa_cons (pe_bltn (v := .ty "int") (by rfl) n_int (by decide +kernel) rfl) (pa_cons (pe_bltn (v := .ty "str") (by rfl) n_str (by decide +kernel) rfl) pa_nil))) pa_nil))) (pe_and (pe_cmpR op_eq (pe_callB (call_isiK1 K rfl) (by rfl) n_isinstance (by decide +kernel) (pa_cons (pv 0) (pa_cons (pe_bltn (v := .ty "int") (by rfl) n_int (by decide +kernel) rfl) pa_nil))) (pe_callB (call_isiK1 K rfl) (by rfl) n_isinstance (by decide +kernel) (pa_cons (pv 1) (pa_cons (pe_bltn (v := .ty "int") (by rfl) n_int (by decide +kernel) rfl) pa_nil))) (nomark _)) (pe_one (pe_cmpR (op_eqDK K rfl hr.units) (pv 0) (pv 1) (nomark _)))))))
  pss_nil)
 (pss_cons (ps_if (PW.pt (pw_or (pt_cmpR op_ne (pe_callB (call_isiK1 K rfl) (by rfl) n_isinstance (by decide +kernel) (pa_cons (pv 1) (pa_cons (pe_bltn (v := .ty "list") (by rfl) n_list (by decide +kernel) rfl) pa_nil))) (pe_callB (call_isiK1 K rfl) (by rfl) n_isinstance (by decide +kernel) (pa_cons (pv 0) (pa_cons (pe_bltn (v := .ty "list") (by rfl) n_list (by decide +kernel) rfl) pa_nil))) (nomark _)) (pw_or1 (pt_cmpR op_ne (pe_callB (call_isiK1 K rfl) (by rfl) n_isinstance (by decide +kernel) (pa_cons (pv 1) (pa_cons (pe_bltn (v := .ty "tuple") (by rfl) n_tuple (by decide +kernel) rfl) pa_nil))) (pe_callB (call_isiK1 K rfl) (by rfl) n_isinstance (by decide +kernel) (pa_cons (pv 0) (pa_cons (pe_bltn (v := .ty "tuple") (by rfl) n_tuple (by decide +kernel) rfl) pa_nil))) (nomark _)))))
  (pss_one (ps_ret pe_bl))
  pss_nil)
 (pss_cons (ps_if (PW.pt (pw_or (pt_not (pt_val (pe_callB (call_isiTK K rfl) (by rfl) n_isinstance (by decide +kernel) (pa_cons (pv 0) (pa_cons (pe_tup (pa_cons (pe_bltn (v := .ty "list") (by rfl) n_list (by decide +kernel) rfl) (pa_cons (pe_bltn (v := .ty "tuple") (by rfl) n_tuple (by decide +kernel) rfl) pa_nil))) pa_nil))))) (pw_or1 (pt_cmpR op_ne (pe_callB (call_lenK K rfl) (by rfl) n_len PySem.boot_len (pa_cons (pv 0) pa_nil)) (pe_callB (call_lenK K rfl) (by rfl) n_len PySem.boot_len (pa_cons (pv 1) pa_nil)) (nomark _)))))
  (pss_one (ps_ret pe_bl))
  pss_nil)
 (pss_one (ps_ret (pe_callB (cr_allK K rfl rfl) (by rfl) n_all (by decide +kernel) (pa_cons (pe_lc (own := [("_law_spot", 2)]) (g := gName 2) (by rfl) sc.nd (pi_range1 (by rfl) n_range (pa_cons (pe_callB (call_lenK K rfl) (by rfl) n_len PySem.boot_len (pa_cons (pv 1) pa_nil)) pa_nil)) (blkOk_by (own := [("_law_spot", 2)]) (N := ["_law_found", "_law_due", "_law_spot"]) (sc := defScope s__law_same) (by decide +kernel)) (fun _ _ _ _ _ => pg_name (i := 2) sc.nd rfl (Or.inl rfl)) (fun _ _ _ _ _ => pts_nil) (fun _ _ _ _ _ => (pe_callC c__law_same hr (by rfl) (pa_cons (pe_ix (ix_seqK K rfl) (pv 0) (pv 2) (fun _ _ => rfl)) (pa_cons (pe_ix (ix_seqK K rfl) (pv 1) (pv 2) (fun _ _ => rfl)) pa_nil))))) pa_nil))))))))), ?_⟩
      have er : PyData.eqv d d = true := SeqAt.eqv_refl d (SeqAt.canLay_of_shaped sd)
      rcases dn with ⟨b, rfl⟩ | ⟨i, rfl⟩ | ⟨z, rfl⟩ | rfl | ⟨ds, hd, hlen, hn⟩
      · have tx : TyX K H x (.type "bool") := tx
        have ty : TyX K H y (.type "bool") := ty
        have kb : PySem.W.kitOne K (.type "bool") (.type "bool") = some true := kit_ty (by decide +kernel)
        have dx' := dx
        have dy' := dy
        cases dx
        cases dy
        refine ⟨_, rfl, rfl, _, rfl, iteF ?_⟩
        refine ⟨_, rfl, _, _, _, _, true, rfl, .ty "bool", ty, kb, _, rfl, iteT ?_⟩
        refine iteT ?_
        refine ⟨_, rfl, _, _, _, _, true, rfl, .ty "bool", ty, kb, true, rfl, iteT ?_⟩
        refine ⟨_, rfl, _, _, _, _, true, rfl, .ty "bool", tx, kb, true, rfl, iteT ?_⟩
        refine ⟨_, rfl, _, rfl, .bool b, .bool b, dx', dy', sd, sd, ?_⟩
        rw [er]
        exact q _ (Same.refl _)
      · have tx : TyX K H x (.type "int") := tx
        have ty : TyX K H y (.type "int") := ty
        have kb : PySem.W.kitOne K (.type "int") (.type "bool") = some false := kit_ty (by decide +kernel)
        have ki : PySem.W.kitOne K (.type "int") (.type "int") = some true := kit_ty (by decide +kernel)
        have dx' := dx
        have dy' := dy
        cases dx
        cases dy
        refine ⟨_, rfl, rfl, _, rfl, iteF ?_⟩
        refine ⟨_, rfl, _, _, _, _, false, rfl, .ty "bool", ty, kb, _, rfl, iteF ?_⟩
        refine ⟨_, rfl, _, _, _, _, false, rfl, .ty "bool", tx, kb, _, rfl, iteF ?_⟩
        refine ⟨_, rfl, (by show 2 ≤ sizeLine; decide), fun p np => ?_⟩
        have s1 : Same H (upd H p (.tup [.ty "int", .ty "str"])) := same_upd np
        refine ⟨_, p, _, _, _, true, rfl, upd_same, .cons (.ty "int") (.cons (.ty "str") .nil), .base (.int i), kitAny_cons ki (fun z => nomatch z) (fun _ => rfl), _, rfl, iteT ?_⟩
        refine ⟨_, rfl, (by show 2 ≤ sizeLine; decide), fun p2 np2 => ?_⟩
        have s2 : Same _ (upd _ p2 (.tup [.ty "int", .ty "str"])) := same_upd np2
        refine ⟨_, p2, _, _, _, true, rfl, upd_same, .cons (.ty "int") (.cons (.ty "str") .nil), .base (.int i), kitAny_cons ki (fun z => nomatch z) (fun _ => rfl), true, rfl, iteT ?_⟩
        refine ⟨_, rfl, _, _, _, _, true, rfl, .ty "int", .base (.int i), ki, ?_⟩
        refine ⟨_, rfl, _, _, _, _, true, rfl, .ty "int", .base (.int i), ki, rfl, true, rfl, iteT ?_⟩
        refine ⟨_, rfl, _, rfl, .int i, .int i, .int i, .int i, sd, sd, ?_⟩
        rw [er]
        exact q _ (s1.trans s2)
      · have tx : TyX K H x (.type "str") := tx
        have ty : TyX K H y (.type "str") := ty
        have kb : PySem.W.kitOne K (.type "str") (.type "bool") = some false := kit_ty (by decide +kernel)
        have ki : PySem.W.kitOne K (.type "str") (.type "int") = some false := kit_ty (by decide +kernel)
        have ks : PySem.W.kitOne K (.type "str") (.type "str") = some true := kit_ty (by decide +kernel)
        have kk : PySem.W.kitAny K (.type "str") [.type "int", .type "str"] = some true := kitAny_cons ki (fun _ => kitAny_cons ks (fun z => nomatch z) (fun _ => rfl)) (fun z => nomatch z)
        cases dx
        cases dy
        refine ⟨_, rfl, rfl, _, rfl, iteF ?_⟩
        refine ⟨_, rfl, _, _, _, _, false, rfl, .ty "bool", ty, kb, _, rfl, iteF ?_⟩
        refine ⟨_, rfl, _, _, _, _, false, rfl, .ty "bool", tx, kb, _, rfl, iteF ?_⟩
        refine ⟨_, rfl, (by show 2 ≤ sizeLine; decide), fun p np => ?_⟩
        have s1 : Same H (upd H p (.tup [.ty "int", .ty "str"])) := same_upd np
        refine ⟨_, p, _, _, _, true, rfl, upd_same, .cons (.ty "int") (.cons (.ty "str") .nil), .base (.str z), kk, _, rfl, iteT ?_⟩
        refine ⟨_, rfl, (by show 2 ≤ sizeLine; decide), fun p2 np2 => ?_⟩
        have s2 : Same _ (upd _ p2 (.tup [.ty "int", .ty "str"])) := same_upd np2
        refine ⟨_, p2, _, _, _, true, rfl, upd_same, .cons (.ty "int") (.cons (.ty "str") .nil), .base (.str z), kk, true, rfl, iteT ?_⟩
        refine ⟨_, rfl, _, _, _, _, false, rfl, .ty "int", .base (.str z), ki, ?_⟩
        refine ⟨_, rfl, _, _, _, _, false, rfl, .ty "int", .base (.str z), ki, rfl, true, rfl, iteT ?_⟩
        refine ⟨_, rfl, _, rfl, .str z, .str z, .str z, .str z, sd, sd, ?_⟩
        rw [er]
        exact q _ (s1.trans s2)
      · cases dx
        cases dy
        refine ⟨_, rfl, rfl, _, rfl, iteT ?_⟩
        exact ⟨_, rfl, rfl, q _ (Same.refl _)⟩
      · -- a list or a tuple
        obtain ⟨ax, ay, xs, ys, nm, rfl, rfl, hsx, hsy, hax, hay, tx, ty, hnm, enm⟩ : ∃ (ax ay : Addr) (xs ys : List V) (nm : String), x = .ref ax ∧ y = .ref ay ∧ (SqL K H ax xs ∨ SqT K H ax xs) ∧ (SqL K H ay ys ∨ SqT K H ay ys) ∧ DpAll K H xs ds ∧ DpAll K H ys ds ∧
            TyX K H x (.type nm) ∧ TyX K H y (.type nm) ∧ (nm = "list" ∨ nm = "tuple") ∧ nm = tyN d := by
          rcases hd with rfl | rfl
          · cases dx with
            | lst h1 h2 =>
              cases dy with
              | lst h3 h4 => exact ⟨_, _, _, _, "list", rfl, rfl, .inl h1, .inl h3, h2, h4, tx, ty, .inl rfl, rfl⟩
          · cases dx with
            | tup h1 h2 =>
              cases dy with
              | tup h3 h4 => exact ⟨_, _, _, _, "tuple", rfl, rfl, .inr h1, .inr h3, h2, h4, tx, ty, .inr rfl, rfl⟩
        have kb : PySem.W.kitOne K (.type nm) (.type "bool") = some false := by rcases hnm with rfl | rfl <;> exact kit_ty (by decide +kernel)
        have ki : PySem.W.kitOne K (.type nm) (.type "int") = some false := by rcases hnm with rfl | rfl <;> exact kit_ty (by decide +kernel)
        have ks : PySem.W.kitOne K (.type nm) (.type "str") = some false := by rcases hnm with rfl | rfl <;> exact kit_ty (by decide +kernel)
        obtain ⟨bl, kl⟩ : ∃ bl, PySem.W.kitOne K (.type nm) (.type "list") = some bl := by
          rcases hnm with rfl | rfl
          · exact ⟨true, kit_ty (by decide +kernel)⟩
          · exact ⟨false, kit_ty (by decide +kernel)⟩
        obtain ⟨bt, kt⟩ : ∃ bt, PySem.W.kitOne K (.type nm) (.type "tuple") = some bt := by
          rcases hnm with rfl | rfl
          · exact ⟨false, kit_ty (by decide +kernel)⟩
          · exact ⟨true, kit_ty (by decide +kernel)⟩
        have kk : PySem.W.kitAny K (.type nm) [.type "int", .type "str"] = some false := kitAny_cons ki (fun _ => kitAny_cons ks (fun _ => rfl) (fun z => nomatch z)) (fun z => nomatch z)
        have kq : PySem.W.kitAny K (.type nm) [.type "list", .type "tuple"] = some true := by
          rcases hnm with rfl | rfl
          · exact kitAny_cons (b := true) (kit_ty (by decide +kernel)) (fun z => nomatch z) (fun _ => rfl)
          · exact kitAny_cons (b := false) (kit_ty (by decide +kernel)) (fun _ => kitAny_cons (b := true) (kit_ty (by decide +kernel)) (fun z => nomatch z) (fun _ => rfl)) (fun z => nomatch z)
        have typ : ∀ {H' : Hp} {v : V}, Same H H' → TyX K H v (.type nm) → (v = .ref ax ∨ v = .ref ay) → TyX K H' v (.type nm) := by
          intro H' v sm h hv
          rw [enm]
          rcases hv with rfl | rfl
          · exact ty_dp (dp_same sm dx)
          · exact ty_dp (dp_same sm dy)
        refine ⟨_, rfl, rfl, _, rfl, iteF ?_⟩
        refine ⟨_, rfl, _, _, _, _, false, rfl, .ty "bool", ty, kb, _, rfl, iteF ?_⟩
        refine ⟨_, rfl, _, _, _, _, false, rfl, .ty "bool", tx, kb, _, rfl, iteF ?_⟩
        refine ⟨_, rfl, (by show 2 ≤ sizeLine; decide), fun p np => ?_⟩
        have s1 : Same H (upd H p (.tup [.ty "int", .ty "str"])) := same_upd np
        refine ⟨_, p, _, _, _, false, rfl, upd_same, .cons (.ty "int") (.cons (.ty "str") .nil), typ s1 ty (.inr rfl), kk, _, rfl, iteF ?_⟩
        refine ⟨_, rfl, _, _, _, _, bl, rfl, .ty "list", typ s1 ty (.inr rfl), kl, ?_⟩
        refine ⟨_, rfl, _, _, _, _, bl, rfl, .ty "list", typ s1 tx (.inl rfl), kl, rfl, _, rfl, ifF (by simp) ?_⟩
        refine ⟨_, rfl, _, _, _, _, bt, rfl, .ty "tuple", typ s1 ty (.inr rfl), kt, ?_⟩
        refine ⟨_, rfl, _, _, _, _, bt, rfl, .ty "tuple", typ s1 tx (.inl rfl), kt, rfl, _, rfl, ifF (by simp) ?_⟩
        refine ⟨_, rfl, (by show 2 ≤ sizeLine; decide), fun p2 np2 => ?_⟩
        have s2 : Same H _ := s1.trans (same_upd (o := .tup [.ty "list", .ty "tuple"]) np2)
        refine ⟨_, p2, _, _, _, true, rfl, upd_same, .cons (.ty "list") (.cons (.ty "tuple") .nil), typ s2 tx (.inl rfl), kq, _, rfl, iteF ?_⟩
        have sq2 : ∀ {H' : Hp} {a : Addr} {zs : List V}, Same H H' → (SqL K H a zs ∨ SqT K H a zs) → (SqL K H' a zs ∨ SqT K H' a zs) := fun sm h => h.elim (fun z => .inl (sm.seq z)) (fun z => .inr (same_t sm z))
        refine ⟨_, rfl, ax, xs, rfl, sq2 s2 hsx, _, rfl, ay, ys, rfl, sq2 s2 hsy, rfl, _, rfl, ifF (by rw [dpa_len hax, dpa_len hay]; simp) ?_⟩
        refine ⟨_, rfl, ay, ys, rfl, sq2 s2 hsy, _, rfl, ?_, ?_, fun D nD => lc_range (lo := 0) (n := ((ys.length : Int)).toNat) (fun i H' => Same H H' ∧ H' D = some (.lst ((List.replicate i true).map V.bl))) ?_ ?_ ?_⟩
        · rw [dpa_len hay]
          omega
        · rw [dpa_len hay]
          omega
        · exact ⟨s2.trans (same_upd nD), upd_same⟩
        · rintro i H' hi ⟨sm, eD⟩
          rw [Int.toNat_natCast] at hi
          have hds : i < ds.length := by rw [← dpa_len hay]; exact hi
          obtain ⟨vx, gx, dvx⟩ := dpa_get hax (List.getElem?_eq_getElem hds)
          obtain ⟨vy, gy, dvy⟩ := dpa_get hay (List.getElem?_eq_getElem hds)
          have ix : ∀ {a : Addr} {zs : List V} {v : V} {Q' : VK}, (SqL K H a zs ∨ SqT K H a zs) → zs[i]? = some v → Q' v H' → rIx K (.ref a) (.int (0 + (i : Int))) H' Q' := by
            intro a zs v Q' h g q'
            have e : atI zs (0 + (i : Int)) = some v := by rw [Int.zero_add]; exact atI_nat g
            rcases sq2 sm h with h | h
            · exact .inl ⟨a, zs, _, v, rfl, rfl, h, e, q'⟩
            · exact .inr (.inl ⟨a, zs, _, v, rfl, rfl, h, e, q'⟩)
          refine ⟨rfl, tYes_by (iteT ?_)⟩
          refine ⟨_, rfl, _, rfl, ix hsx gx ?_⟩
          refine ⟨_, rfl, _, rfl, ix hsy gy ?_⟩
          refine ⟨vx, vy, ds[i], rfl, dp_same sm dvx, dp_same sm dvy, hn _ (List.getElem_mem hds), ?_, fun H2 s4 => ?_⟩
          · exact shaped_mem (List.getElem_mem hds) (hd.elim (fun z => .inl (z ▸ sd)) (fun z => .inr (z ▸ sd)))
          · refine ⟨_, s4 _ _ eD, ?_, ?_, ?_⟩
            · rw [List.length_map, List.length_replicate]
              exact Nat.lt_of_lt_of_le (show i < 100000 by omega) (by decide)
            · exact same_mut (sm.trans s4) (s2.free nD)
            · rw [upd_same, List.replicate_succ', List.map_append]
              rfl
        · rintro H' ⟨sm, eD⟩
          refine ⟨D, _, rfl, SqL.of eD, ?_⟩
          have e : (List.replicate ((ys.length : Int)).toNat true).all id = true := by simp
          rw [e]
          exact q _ sm
theorem sc_check_bits : FnScope ["bits", "at", "bit"] ["bits"] (defScope s_check_bits) := ⟨rfl, rfl, rfl, by decide +kernel, rfl, by decide +kernel, by decide +kernel⟩
/-- all of them are bits -/
def spCheck (K : PySem.W.Frag) : Sp := fun vs H Q _ => ∃ (a : Addr) (ns : List Int), vs = [.ref a] ∧ SqL K H a (ns.map V.int) ∧ Bits ns ∧ ∀ H', Same H H' → Q .non H'
theorem ok_check_bits {f : Addr} {fd : FuncData} {k : Nat} (F : Fun K "check_bits" "check_bits" s_check_bits f fd) (n_enumerate : mg "enumerate" = none) : FnOk P w K mg base CX0 (k + 1) f fd ["bits"] (spCheck K) := by
  have sc := sc_check_bits
  refine F.ok sc (fun vs H Q E h => ?_) (fun cdv A outer s H vs Q E hr h => ?_)
  · obtain ⟨a, ns, rfl, _⟩ := h
    rfl
  · obtain ⟨a, ns, rfl, hS, hB, q⟩ := h
    refine ⟨_, (pss_one (ps_for PassesOwn.never rfl (pi_enum (by rfl) n_enumerate (pa_cons (pv 0) pa_nil)) (pg_tup rfl (pgs_cons (pg_name (i := 1) sc.nd rfl (.inl rfl)) (pgs_cons (pg_name (i := 2) sc.nd rfl (.inl rfl)) pgs_nil)))
  (pss_one (ps_if (pt_cmpR (op_notInK K rfl) (pv 2) (pe_tup (pa_cons pe_int (pa_cons pe_int pa_nil))) (by rfl))
  (pss_one ps_never)
  pss_nil)))), ?_⟩
    refine ⟨_, rfl, a, _, rfl, hS, for_enumK (xs := ns.map V.int) (fun i σ H' => ∃ y1 y2, σ = [some (.ref a), y1, y2] ∧ Same H H') ⟨none, none, rfl, Same.refl H⟩ (fun i σ H' _ h => ?_) ?_ ?_⟩
    · obtain ⟨y1, y2, _, sm⟩ := h
      exact sm.seq hS
    · rintro i x T σ H' hx ⟨y1, y2, rfl, sm⟩ nT
      obtain ⟨z, hz, rfl⟩ : ∃ z, z ∈ ns ∧ x = V.int z := by
        have := List.mem_of_getElem? hx
        obtain ⟨z, h1, h2⟩ := List.mem_map.mp this
        exact ⟨z, h1, h2.symm⟩
      have s1 := sm.trans (same_upd (o := .tup [.int (i : Nat), .int z]) nT)
      refine ⟨T, _, rfl, SqT.of upd_same, rfl, _, _, rfl, _, _, rfl, rfl, ?_⟩
      refine ⟨_, rfl, (by show 2 ≤ sizeLine; decide), fun p np => ?_⟩
      refine ⟨p, _, rfl, .inr (SqT.of upd_same), rfl, rfl, _, rfl, ?_⟩
      have e : inV (.int z) [.int 0, .int 1] = true := by
        rcases hB z hz with rfl | rfl <;> decide
      refine ifF ?_ ⟨_, _, rfl, s1.trans (same_upd np)⟩
      show (if true = true then !inV (.int z) [.int 0, .int 1] else inV (.int z) [.int 0, .int 1]) = false
      rw [e]
      rfl
    · rintro σ H' ⟨y1, y2, rfl, sm⟩
      exact q H' sm
theorem sc_moved_on : FnScope ["cells", "bit", "front", "moved", "place"] ["cells", "bit"] (defScope s_moved_on) := ⟨rfl, rfl, rfl, by decide +kernel, rfl, by decide +kernel, by decide +kernel⟩
/-- the register one bit on -/
def spMoved (K : PySem.W.Frag) : Sp := fun vs H Q _ => ∃ (a : Addr) (c : Nat) (b : Int), vs = [.ref a, .int b] ∧ c < 65536 ∧ (b = 0 ∨ b = 1) ∧ SqL K H a ((wr 16 (c : Int)).map V.int) ∧ ∀ (H' : Hp) (p : Addr), Same H H' → H p = none → H' p = some (.lst ((wr 16 (stepR c b : Nat)).map V.int)) → Q (.ref p) H'
theorem ok_moved_on {f a_TURNED : Addr} {fd : FuncData} {k : Nat} (F : Fun K "moved_on" "moved_on" s_moved_on f fd) (g_TURNED : mg "TURNED" = some (.ref a_TURNED)) (hT : ∀ H, SqT K H a_TURNED [.int 3, .int 10, .int 15]) : FnOk P w K mg base CX0 (k + 1) f fd ["cells", "bit"] (spMoved K) := by
  have sc := sc_moved_on
  refine F.ok sc (fun vs H Q E h => ?_) (fun cdv A outer s H vs Q E hr h => ?_)
  · obtain ⟨a, c, b, rfl, _⟩ := h
    rfl
  · obtain ⟨a, c, b, rfl, hc, hb, hS, q⟩ := h
    refine ⟨_, (pss_cons (ps_set (i := 2) sc.nd rfl (.inl rfl) (pe_op op_xor (pe_ix (ix_listK K rfl) (pv 0) pe_int (fun _ _ => rfl)) (pv 1)))
 (pss_cons (ps_set (i := 3) sc.nd rfl (.inl rfl) (pe_op op_cat (pe_slice (sl_listK K rfl) (pv 0) (po_some pe_int) po_none) (pe_lst (pa_cons pe_int pa_nil))))
 (pss_cons (ps_if (pt_cmpR op_eq (pv 2) pe_int (nomark _))
  (pss_one (ps_for PassesOwn.never rfl (pi_tupK K rfl (pe_glob (v := .ref a_TURNED) (by rfl) g_TURNED rfl)) (pg_name (i := 4) sc.nd rfl (.inl rfl))
  (pss_one (ps_asg (pe_op op_sub pe_int (pe_ix (ix_listK K rfl) (pv 3) (pv 4) (fun _ _ => rfl))) (pg_sub (pv 3) (pv 4) set_list)))))
  pss_nil)
 (pss_one (ps_ret (pv 3)))))), ?_⟩
    have h0 : atI ((wr 16 (c : Int)).map V.int) 0 = some (.int ((c / 32768 : Nat) : Int)) := by
      have e : ((c : Int) / 2 ^ 15) % 2 = ((c / 32768 : Nat) : Int) := by omega
      show some (V.int (((c : Int) / 2 ^ 15) % 2)) = _
      rw [e]
    have hcut : cutV ((wr 16 (c : Int)).map V.int) (some 1) none = ((wr 16 (c : Int)).drop 1).map V.int := rfl
    have hmap : cutV ((wr 16 (c : Int)).map V.int) (some 1) none ++ [V.int 0] = (wr 16 ((c * 2 % 65536 : Nat) : Int)).map V.int := by
      rw [hcut, wr_shift, List.map_append]
      rfl
    refine ⟨_, rfl, a, _, 0, _, rfl, rfl, hS, h0, _, rfl, _, _, rfl, rfl, ?_⟩
    refine ⟨_, rfl, 1, rfl, a, _, rfl, hS, fun p1 n1 => ?_⟩
    have s1 : Same H (upd H p1 (.lst (cutV ((wr 16 (c : Int)).map V.int) (some 1) none))) := same_upd n1
    refine ⟨(by show 1 ≤ sizeLine; decide), fun p2 n2 => ?_⟩
    have s2 := s1.trans (same_upd (o := .lst [.int 0]) n2)
    have n21 : p1 ≠ p2 := ne_of_none upd_same n2
    refine ⟨p1, p2, _, _, rfl, rfl, (by rw [upd_ne n21]; exact upd_same), upd_same, ?_, fun p3 n3 => ?_⟩
    · rw [hcut, List.length_map, List.length_drop, wr_len]
      decide
    rw [hmap]
    have s3 := s2.trans (same_upd (o := .lst ((wr 16 ((c * 2 % 65536 : Nat) : Int)).map V.int)) n3)
    have n03 : H p3 = none := s2.free n3
    refine name_by ?_
    dsimp only
    refine if_by (J := fun σ1 H1 => ∃ y2 y4, σ1 = [some (.ref a), some (.int b), y2, some (.ref p3), y4] ∧ Same H H1 ∧ H1 p3 = some (.lst ((wr 16 (stepR c b : Nat)).map V.int))) ?_ (fun rest => ?_)
    · rintro σ1 H1 ⟨y2, y4, rfl, sm, e3⟩
      exact ⟨_, rfl, q H1 p3 sm n03 e3⟩
    · have hx : c / 32768 = 0 ∨ c / 32768 = 1 := by omega
      refine ⟨_, rfl, rfl, _, rfl, ite2 (fun e => ?_) (fun e => ?_)⟩
      · have hne : ¬ ((c / 32768 : Nat) : Int) = b := by
          have e := V.int.inj (of_decide_eq_true e)
          rcases hx with hx | hx <;> rcases hb with rfl | rfl <;> rw [hx] at e ⊢ <;> revert e <;> decide
        have est : stepR c b = (c * 2 % 65536) ^^^ 4129 := if_neg hne
        have efl : (wr 16 (stepR c b : Nat)) = fl (fl (fl (wr 16 ((c * 2 % 65536 : Nat) : Int)) 3) 10) 15 := by rw [est]; exact wr_flip _
        generalize hM : wr 16 ((c * 2 % 65536 : Nat) : Int) = M at efl s3 ⊢
        have lM : M.length = 16 := by rw [← hM]; exact wr_len _ _
        have lfl : ∀ (L : List Int) (j : Nat), (fl L j).length = L.length := fun L j => by unfold fl; exact List.length_set
        refine ⟨a_TURNED, rfl, ⟨_, hT _⟩, for_tup (K := K) (a := a_TURNED) (xs := [.int 3, .int 10, .int 15]) (fun i σ H' => ∃ y2 y4, σ = [some (.ref a), some (.int b), y2, some (.ref p3), y4] ∧ Same H H' ∧ H' p3 = some (.lst ((([3, 10, 15].take i).foldl fl M).map V.int)))
          ⟨_, none, rfl, s3, upd_same⟩ (fun _ _ _ _ _ => hT _) ?_ ?_⟩
        · rintro i x σ H' hi ⟨y2, y4, rfl, sm, e3⟩
          have fin : ∀ (j : Nat) (L : List Int), L.length = 16 → j < 16 → x = .int (j : Int) → H' p3 = some (.lst (L.map V.int)) → (([3, 10, 15].take (i + 1)).foldl fl M) = fl L j →
              ∃ jj : Nat, x = .int (jj : Int) ∧ ∃ v, atI (L.map V.int) (jj : Int) = some (.int v) ∧ ixN (L.map V.int).length (jj : Int) = some jj ∧ (([3, 10, 15].take (i + 1)).foldl fl M).map V.int = (L.map V.int).set jj (.int (1 - v)) := by
            intro j L hL hj hxj e3 en
            have g : L[j]? = some (L.getD j 0) := by
              rw [List.getD_eq_getElem?_getD, List.getElem?_eq_getElem (by omega)]
              rfl
            refine ⟨j, hxj, L.getD j 0, atI_nat (by rw [List.getElem?_map, g]; rfl), ?_, ?_⟩
            · unfold ixN
              rw [List.length_map, hL, if_pos (by omega), if_pos (by omega)]
              simp
            · rw [en]
              unfold fl
              rw [List.map_set]
          obtain ⟨L, e3', jj, rfl, v, ga, gi, en⟩ : ∃ L : List Int, H' p3 = some (.lst (L.map V.int)) ∧ ∃ jj : Nat, x = .int (jj : Int) ∧ ∃ v, atI (L.map V.int) (jj : Int) = some (.int v) ∧ ixN (L.map V.int).length (jj : Int) = some jj ∧ (([3, 10, 15].take (i + 1)).foldl fl M).map V.int = (L.map V.int).set jj (.int (1 - v)) := by
            match i, hi, e3, fin with
            | 0, hi, e3, fin => exact ⟨M, e3, fin 3 M lM (by omega) (Option.some.inj hi).symm e3 rfl⟩
            | 1, hi, e3, fin => exact ⟨fl M 3, e3, fin 10 (fl M 3) (by rw [lfl]; exact lM) (by omega) (Option.some.inj hi).symm e3 rfl⟩
            | 2, hi, e3, fin => exact ⟨fl (fl M 3) 10, e3, fin 15 (fl (fl M 3) 10) (by rw [lfl, lfl]; exact lM) (by omega) (Option.some.inj hi).symm e3 rfl⟩
          refine ⟨_, rfl, _, rfl, p3, _, _, _, rfl, rfl, SqL.of e3', ga, _, _, rfl, rfl, _, rfl, _, rfl, p3, _, _, jj, rfl, rfl, e3', gi, _, _, rfl, same_mut sm n03, ?_⟩
          rw [upd_same, en]
        · rintro σ H' ⟨y2, y4, rfl, sm, e3⟩
          exact rest _ _ ⟨_, _, rfl, sm, by rw [efl]; exact e3⟩
      · have heq : ((c / 32768 : Nat) : Int) = b := by
          have e : ¬ Builtin.bitXor ((c / 32768 : Nat) : Int) b = 1 := fun z => e (decide_eq_true (by rw [← z]))
          rcases hx with hx | hx <;> rcases hb with rfl | rfl <;> rw [hx] at e ⊢ <;> revert e <;> decide
        exact rest _ _ ⟨_, none, rfl, s3, by rw [upd_same, show stepR c b = c * 2 % 65536 from if_pos heq]⟩
theorem sc_seal_of : FnScope ["bits", "cells", "bit"] ["bits"] (defScope s_seal_of) := ⟨rfl, rfl, rfl, by decide +kernel, rfl, by decide +kernel, by decide +kernel⟩
/-- the seal -/
def spSeal (K : PySem.W.Frag) : Sp := fun vs H Q _ => ∃ (a : Addr) (ns : List Int), vs = [.ref a] ∧ SqL K H a (ns.map V.int) ∧ Bits ns ∧ ∀ (H' : Hp) (p : Addr), Same H H' → H p = none → H' p = some (.lst ((sealL ns).map V.int)) → Q (.ref p) H'
theorem getI {ns : List Int} {i : Nat} {y : V} (h : (ns.map V.int)[i]? = some y) : ∃ z, ns[i]? = some z ∧ y = V.int z := by
  rw [List.getElem?_map] at h
  cases e : ns[i]? with
  | none => rw [e] at h; cases h
  | some z => rw [e] at h; exact ⟨z, rfl, (Option.some.inj h).symm⟩
theorem ok_seal_of {f : Addr} {fd : FuncData} {k : Nat} {tS : Tok} (F : Fun K "seal_of" "seal_of" s_seal_of f fd) (g_SEAL : mg "SEAL" = some (.int 16 tS)) (c_check_bits : Cal P w K mg base k "check_bits" ["bits"] (spCheck K)) (c_moved_on : Cal P w K mg base k "moved_on" ["cells", "bit"] (spMoved K)) :
    FnOk P w K mg base CX0 (k + 1) f fd ["bits"] (spSeal K) := by
  have sc := sc_seal_of
  refine F.ok sc (fun vs H Q E h => ?_) (fun cdv A outer s H vs Q E hr h => ?_)
  · obtain ⟨a, ns, rfl, _⟩ := h
    rfl
  · obtain ⟨a, ns, rfl, hS, hB, q⟩ := h
    refine ⟨_, (pss_cons (ps_expr (pe_callC c_check_bits hr (by rfl) (pa_cons (pv 0) pa_nil)))
 (pss_cons (ps_set (i := 1) sc.nd rfl (.inl rfl) (pe_op op_rep (pe_lst (pa_cons pe_int pa_nil)) (pe_glob (v := .int 16) (by rfl) g_SEAL ⟨_, rfl⟩)))
 (pss_cons (ps_for PassesOwn.never rfl (pi_listK K rfl (pv 0)) (pg_name (i := 2) sc.nd rfl (.inl rfl))
  (pss_one (ps_set (i := 1) sc.nd rfl (.inl rfl) (pe_callC c_moved_on hr (by rfl) (pa_cons (pv 1) (pa_cons (pv 2) pa_nil))))))
 (pss_one (ps_ret (pv 1)))))), ?_⟩
    refine ⟨_, rfl, a, ns, rfl, hS, hB, fun H1 s1 => ?_⟩
    refine ⟨(by show 1 ≤ sizeLine; decide), fun p1 n1 => ?_⟩
    refine ⟨p1, 16, _, rfl, rfl, upd_same, by decide, by decide, by decide, fun p2 n2 => ?_⟩
    have s2 := s1.trans (same_upd (o := .lst [.int 1]) n1)
    have e0 : (List.replicate (Int.toNat 16) [V.int 1]).flatten = (sealL (ns.take 0)).map V.int := by
      show _ = (wr 16 65535).map V.int
      rfl
    rw [e0]
    have s3 := s2.trans (same_upd (o := .lst ((sealL (ns.take 0)).map V.int)) n2)
    refine ⟨_, rfl, a, rfl, ⟨_, s3.seq hS⟩, for_list (K := K) (a := a) (xs := ns.map V.int) (fun i σ H' => ∃ (p : Addr) (y : Option V), σ = [some (.ref a), some (.ref p), y] ∧ Same H H' ∧ H p = none ∧ H' p = some (.lst ((sealL (ns.take i)).map V.int)))
      ⟨p2, none, rfl, s3, s2.free n2, upd_same⟩ (fun i σ H' _ h => ?_) ?_ ?_⟩
    · obtain ⟨p, y, _, sm, _⟩ := h
      exact sm.seq hS
    · rintro i y σ H' hi ⟨p, y2, rfl, sm, np, ep⟩
      obtain ⟨z, hz, rfl⟩ := getI hi
      refine ⟨_, rfl, _, rfl, p, regs (ns.take i), z, rfl, regs_lt _, hB z (List.mem_of_getElem? hz), SqL.of ep, fun H2 p' s4 n4 e4 => ?_⟩
      refine ⟨p', _, rfl, sm.trans s4, sm.free n4, ?_⟩
      rw [e4]
      unfold sealL
      rw [regs_more hz]
    · rintro σ H' ⟨p, y, rfl, sm, np, ep⟩
      rw [List.length_map, List.take_length] at ep
      exact ⟨_, rfl, q H' p sm np ep⟩
theorem sc_holds : FnScope ["bits", "end"] ["bits"] (defScope s_holds) := ⟨rfl, rfl, rfl, by decide +kernel, rfl, by decide +kernel, by decide +kernel⟩
def spHolds (K : PySem.W.Frag) : Sp := fun vs H Q _ => ∃ (a : Addr) (ns : List Int), vs = [.ref a] ∧ SqL K H a (ns.map V.int) ∧ Bits ns ∧ ∀ H', Same H H' → Q (.bl (holdsB ns)) H'
theorem cut_to {ns : List Int} {n : Nat} (h : n ≤ ns.length) : cutV (ns.map V.int) none (some (n : Int)) = (ns.take n).map V.int := by
  unfold cutV
  rw [HT.sIx_none, HT.sIx_nat, List.length_map, Nat.min_eq_left h]
  simp
theorem cut_from {ns : List Int} {n : Nat} (h : n ≤ ns.length) : cutV (ns.map V.int) (some (n : Int)) none = (ns.drop n).map V.int := by
  unfold cutV
  rw [HT.sIx_none, HT.sIx_nat, List.length_map, Nat.min_eq_left h]
  rw [← List.map_drop]
  exact List.take_of_length_le (by simp)
theorem ok_holds {f : Addr} {fd : FuncData} {k : Nat} {tS : Tok} (F : Fun K "holds" "holds" s_holds f fd) (n_len : mg "len" = none) (n_list : mg "list" = none) (g_SEAL : mg "SEAL" = some (.int 16 tS)) (c_check_bits : Cal P w K mg base k "check_bits" ["bits"] (spCheck K)) (c_seal_of : Cal P w K mg base k "seal_of" ["bits"] (spSeal K)) :
    FnOk P w K mg base CX0 (k + 1) f fd ["bits"] (spHolds K) := by
  have sc := sc_holds
  refine F.ok sc (fun vs H Q E h => ?_) (fun cdv A outer s H vs Q E hr h => ?_)
  · obtain ⟨a, ns, rfl, _⟩ := h
    rfl
  · obtain ⟨a, ns, rfl, hS, hB, q⟩ := h
    refine ⟨_, (pss_cons (ps_expr (pe_callC c_check_bits hr (by rfl) (pa_cons (pv 0) pa_nil)))
 (pss_cons (ps_if (pt_cmpR op_lt (pe_callB (call_lenK K rfl) (by rfl) n_len PySem.boot_len (pa_cons (pv 0) pa_nil)) (pe_glob (v := .int 16) (by rfl) g_SEAL ⟨_, rfl⟩) (nomark _))
  (pss_one (ps_ret pe_bl))
  pss_nil)
 (pss_cons (ps_set (i := 1) sc.nd rfl (.inl rfl) (pe_op op_sub (pe_callB (call_lenK K rfl) (by rfl) n_len PySem.boot_len (pa_cons (pv 0) pa_nil)) (pe_glob (v := .int 16) (by rfl) g_SEAL ⟨_, rfl⟩)))
 (pss_one (ps_ret (pe_cmpR (op_eqDK K rfl hr.units) (pe_callC c_seal_of hr (by rfl) (pa_cons (pe_slice (sl_listK K rfl) (pv 0) po_none (po_some (pv 1))) pa_nil)) (pe_callTy (call_listK K rfl) (by rfl) n_list (by decide +kernel) (pa_cons (pe_slice (sl_listK K rfl) (pv 0) (po_some (pv 1)) po_none) pa_nil)) (nomark _))))))), ?_⟩
    refine ⟨_, rfl, a, ns, rfl, hS, hB, fun H1 s1 => ?_⟩
    refine ⟨_, rfl, a, _, rfl, .inl (s1.seq hS), _, _, rfl, rfl, _, rfl, ite2 (fun e => ?_) (fun e => ?_)⟩
    · have hlt : ns.length < 16 := by
        have := of_decide_eq_true e
        rw [List.length_map] at this
        omega
      have := q H1 s1
      unfold holdsB at this
      rw [decide_eq_false (by omega : ¬ 16 ≤ ns.length)] at this
      exact this
    · have hge : 16 ≤ ns.length := by
        have e : ¬ ((ns.map V.int).length : Int) < 16 := fun z => e (decide_eq_true z)
        rw [List.length_map] at e
        omega
      have en : ((ns.map V.int).length : Int) - 16 = ((ns.length - 16 : Nat) : Int) := by rw [List.length_map]; omega
      refine ⟨_, rfl, a, _, rfl, .inl (s1.seq hS), _, _, rfl, rfl, ?_⟩
      refine ⟨_, rfl, _, rfl, _, rfl, a, _, rfl, s1.seq hS, fun p1 n1 => ?_⟩
      have hcut : cutV (ns.map V.int) none (some ((fun i j => i - j) ((ns.map V.int).length : Int) 16)) = (ns.take (ns.length - 16)).map V.int := by
        show cutV (ns.map V.int) none (some (((ns.map V.int).length : Int) - 16)) = _
        rw [en, cut_to (by omega)]
      have s2 := s1.trans (same_upd (o := .lst (cutV (ns.map V.int) none (some (((ns.map V.int).length : Int) - 16)))) n1)
      refine ⟨p1, ns.take (ns.length - 16), rfl, SqL.of ?_, fun z hz => hB z (List.mem_of_mem_take hz), fun H3 p3 s3 n3 e3 => ?_⟩
      · rw [← hcut]
        exact upd_same
      · have s4 := s2.trans s3
        refine ⟨_, rfl, _, rfl, _, rfl, a, _, rfl, s4.seq hS, fun p4 n4 => ?_⟩
        refine ⟨p4, _, rfl, .inl (SqL.of upd_same), fun p5 n5 => ?_⟩
        have s5 := s4.trans (same_upd (o := .lst (cutV (ns.map V.int) (some (((ns.map V.int).length : Int) - 16)) none)) n4)
        have s6 := s5.trans (same_upd (o := .lst (cutV (ns.map V.int) (some (((ns.map V.int).length : Int) - 16)) none)) n5)
        have hcut2 : cutV (ns.map V.int) (some (((ns.map V.int).length : Int) - 16)) none = (ns.drop (ns.length - 16)).map V.int := by
          rw [en, cut_from (by omega)]
        have e3' : SqL K (upd (upd H3 p4 (.lst (cutV (ns.map V.int) (some (((ns.map V.int).length : Int) - 16)) none))) p5 (.lst (cutV (ns.map V.int) (some (((ns.map V.int).length : Int) - 16)) none))) p3 ((sealL (ns.take (ns.length - 16))).map V.int) := by
          refine SqL.of ?_
          rw [upd_ne (ne_of_none (same_upd n4 _ _ e3) n5), upd_ne (ne_of_none e3 n4)]
          exact e3
        refine ⟨_, _, dp_ints e3', dp_ints (ns := ns.drop (ns.length - 16)) (SqL.of (by rw [← hcut2]; exact upd_same)), shaped_ints _, shaped_ints _, ?_⟩
        rw [eqv_ints]
        have := q _ s6
        unfold holdsB at this
        rw [decide_eq_true hge, Bool.true_and] at this
        exact this
theorem sc_sealed : FnScope ["bits"] ["bits"] (defScope s_sealed) := ⟨rfl, rfl, rfl, by decide +kernel, rfl, by decide +kernel, by decide +kernel⟩
/-- the row and its seal -/
def spSealed (K : PySem.W.Frag) : Sp := fun vs H Q _ => ∃ (a : Addr) (ns : List Int), vs = [.ref a] ∧ SqL K H a (ns.map V.int) ∧ Bits ns ∧ ns.length ≤ 10000 ∧ ∀ (H' : Hp) (p : Addr), Same H H' → H p = none → H' p = some (.lst ((ns ++ sealL ns).map V.int)) → Q (.ref p) H'
theorem ok_sealed {f : Addr} {fd : FuncData} {k : Nat} (F : Fun K "sealed" "sealed" s_sealed f fd) (n_list : mg "list" = none) (c_seal_of : Cal P w K mg base k "seal_of" ["bits"] (spSeal K)) :
    FnOk P w K mg base CX0 (k + 1) f fd ["bits"] (spSealed K) := by
  have sc := sc_sealed
  refine F.ok sc (fun vs H Q E h => ?_) (fun cdv A outer s H vs Q E hr h => ?_)
  · obtain ⟨a, ns, rfl, _⟩ := h
    rfl
  · obtain ⟨a, ns, rfl, hS, hB, hl, q⟩ := h
    refine ⟨_, (pss_one (ps_ret (pe_op op_cat (pe_callTy (call_listK K rfl) (by rfl) n_list (by decide +kernel) (pa_cons (pv 0) pa_nil)) (pe_callC c_seal_of hr (by rfl) (pa_cons (pv 0) pa_nil))))), ?_⟩
    refine ⟨_, rfl, a, _, rfl, .inl hS, fun p1 n1 => ?_⟩
    have s1 : Same H (upd H p1 (.lst (ns.map V.int))) := same_upd n1
    refine ⟨_, rfl, a, ns, rfl, s1.seq hS, hB, fun H2 p2 s2 n2 e2 => ?_⟩
    refine ⟨p1, p2, _, _, rfl, rfl, s2 _ _ upd_same, e2, ?_, fun p3 n3 => ?_⟩
    · rw [List.length_map, List.length_map, seal_len]
      exact sz4 (by omega)
    · rw [← List.map_append]
      exact q _ p3 ((s1.trans s2).trans (same_upd n3)) ((s1.trans s2).free n3) upd_same
theorem sc__law_bits : FnScope ["_law_bag_here", "_law_size", "_law_thick", "_law_flip", "_law_k"] ["_law_bag_here", "_law_size"] (defScope s__law_bits) := ⟨rfl, rfl, rfl, by decide +kernel, rfl, by decide +kernel, by decide +kernel⟩
/-- some bits, so many -/
def spBits : Sp := fun vs H Q _ => ∃ (b : Addr × Addr) (m : Int), vs = [.ref b.1, .int m] ∧ Bag b H ∧ m ≤ 100000 ∧ -100000 ≤ m ∧ ∀ (H' : Hp) (p : Addr) (ns : List Int), Mv b.1 H H' → Bag b H' → H p = none → H' p = some (.lst (ns.map V.int)) → Bits ns → ns.length = m.toNat → Q (.ref p) H'
theorem ok__law_bits {f : Addr} {fd : FuncData} {k : Nat} (F : Fun K "_law_bits" "_law_bits" s__law_bits f fd) (n_range : mg "range" = none) (c__law_pick : Cal P w K mg base k "_law_pick" ["_law_bag_here", "_law_top"] spPick) :
    FnOk P w K mg base CX0 (k + 1) f fd ["_law_bag_here", "_law_size"] spBits := by
  have sc := sc__law_bits
  refine F.ok sc (fun vs H Q E h => ?_) (fun cdv A outer s H vs Q E hr h => ?_)
  · obtain ⟨b, m, rfl, _⟩ := h
    rfl
  · obtain ⟨b, m, rfl, hB, hm1, hm0, q⟩ := h
    refine ⟨_, (pss_cons (ps_set (i := 2) sc.nd rfl (.inr rfl) (pe_ix (ix_listK K rfl) (pe_lst (pa_cons pe_int (pa_cons pe_int (pa_cons pe_int (pa_cons pe_int pa_nil))))) (pe_callC c__law_pick hr (by rfl) (pa_cons (pv 0) (pa_cons pe_int pa_nil))) (fun _ _ => rfl)))
 (pss_cons (ps_set (i := 3) sc.nd rfl (.inr rfl) (pe_callC c__law_pick hr (by rfl) (pa_cons (pv 0) (pa_cons pe_int pa_nil))))
 (pss_cons (ps_if (pt_cmpR op_eq (pv 2) pe_int (nomark _))
  (pss_one (ps_ret (pe_lc (own := [("_law_k", 4)]) (g := gName 4) (by rfl) sc.nd (pi_range1 (by rfl) n_range (pa_cons (pv 1) pa_nil)) (blkOk_by (own := [("_law_k", 4)]) (N := ["_law_bag_here", "_law_size", "_law_thick", "_law_flip", "_law_k"]) (sc := defScope s__law_bits) (by decide +kernel)) (fun _ _ _ _ _ => pg_name (i := 4) sc.nd rfl (Or.inl rfl)) (fun _ _ _ _ _ => pts_nil) (fun _ _ _ _ _ => (pe_callC c__law_pick hr (by rfl) (pa_cons (pv 0) (pa_cons pe_int pa_nil)))))))
  pss_nil)
 (pss_one (ps_ret (pe_lc (own := [("_law_k", 4)]) (g := gName 4) (by rfl) sc.nd (pi_range1 (by rfl) n_range (pa_cons (pv 1) pa_nil)) (blkOk_by (own := [("_law_k", 4)]) (N := ["_law_bag_here", "_law_size", "_law_thick", "_law_flip", "_law_k"]) (sc := defScope s__law_bits) (by decide +kernel)) (fun _ _ _ _ _ => pg_name (i := 4) sc.nd rfl (Or.inl rfl)) (fun _ _ _ _ _ => pts_nil) (fun _ _ _ _ _ => (pe_ifExp (pt_cmpR op_eq (pe_callC c__law_pick hr (by rfl) (pa_cons (pv 0) (pa_cons (pv 2) pa_nil))) pe_int (nomark _)) (pv 3) (pe_op op_sub pe_int (pv 3)))))))))), ?_⟩
    refine ⟨(by show 4 ≤ sizeLine; decide), fun p0 n0 => ?_⟩
    have h0 : SH b _ _ := (SH.nil hB).new (o := .lst [.int 2, .int 2, .int 5, .int 9]) n0
    have m0 : Mv b.1 H (upd H p0 (.lst [.int 2, .int 2, .int 5, .int 9])) := Mv.of (same_upd n0)
    refine ⟨_, rfl, b, 4, rfl, h0.bag, by decide, by decide, fun H1 d mv1 hB1 d0 d1 => ?_⟩
    have h1 := h0.mv mv1 hB1
    obtain ⟨v, hv, hat⟩ : ∃ v : Int, (v = 2 ∨ v = 5 ∨ v = 9) ∧ atI [V.int 2, V.int 2, V.int 5, V.int 9] d = some (.int v) := by
      have : d = 0 ∨ d = 1 ∨ d = 2 ∨ d = 3 := by omega
      rcases this with rfl | rfl | rfl | rfl
      · exact ⟨2, .inl rfl, rfl⟩
      · exact ⟨2, .inl rfl, rfl⟩
      · exact ⟨5, .inr (.inl rfl), rfl⟩
      · exact ⟨9, .inr (.inr rfl), rfl⟩
    refine ⟨p0, _, d, _, rfl, rfl, SqL.of (h1.get (.head _)), hat, ?_⟩
    refine ⟨_, rfl, b, 2, rfl, hB1, by decide, by decide, fun H2 fp mv2 hB2 f0 f1 => ?_⟩
    have m2 := (m0.trans mv1).trans mv2
    have done : ∀ D : Addr, H2 D = none → ∀ H3 : Hp, (∃ ns : List Int, Mv b.1 H2 H3 ∧ Bag b H3 ∧ H3 D = some (.lst (ns.map V.int)) ∧ Bits ns ∧ ns.length = m.toNat) → Q (.ref D) H3 := by
      rintro D nD H3 ⟨ns, mv3, hB3, eD, hb, hl⟩
      exact q H3 D ns (m2.trans mv3) hB3 (m2.none (hB2.ne nD) nD) eD hb hl
    have turn : ∀ (D : Addr) (H3 H4 : Hp) (i : Nat) (y : Int), H2 D = none → i < m.toNat → (∃ ns : List Int, Mv b.1 H2 H3 ∧ Bag b H3 ∧ H3 D = some (.lst (ns.map V.int)) ∧ Bits ns ∧ ns.length = i) → Mv b.1 H3 H4 → Bag b H4 → (y = 0 ∨ y = 1) →
        ∃ acc, H4 D = some (.lst acc) ∧ acc.length < sizeLine ∧ ∃ ns : List Int, Mv b.1 H2 (upd H4 D (.lst (acc ++ [.int y]))) ∧ Bag b (upd H4 D (.lst (acc ++ [.int y]))) ∧ upd H4 D (.lst (acc ++ [.int y])) D = some (.lst (ns.map V.int)) ∧ Bits ns ∧ ns.length = i + 1 := by
      rintro D H3 H4 i y nD hi ⟨ns, mv3, hB3, eD, hb, hl⟩ mv4 hB4 hy
      have neD : D ≠ b.1 := hB2.ne nD
      refine ⟨_, mv4 _ _ neD eD, ?_, ns ++ [y], ?_, ?_, ?_, bits_app hb (bits_one hy), by simp [hl]⟩
      · rw [List.length_map, hl]
        exact Nat.lt_of_lt_of_le (show i < 100000 by omega) (by decide)
      · intro a o ne ha
        rw [upd_ne (ne_of_none ha nD)]
        exact mv4 a o ne (mv3 a o ne ha)
      · exact hB4.upd neD (hB2.ne2 nD)
      · rw [upd_same, List.map_append]
        rfl
    refine name_by ?_
    dsimp only
    refine ⟨_, rfl, rfl, _, rfl, ite2 (fun e => ?_) (fun e => ?_)⟩
    · refine ⟨_, rfl, m, rfl, by omega, by omega, fun D nD => lc_range (lo := 0) (n := m.toNat) (fun i H' => ∃ ns : List Int, Mv b.1 H2 H' ∧ Bag b H' ∧ H' D = some (.lst (ns.map V.int)) ∧ Bits ns ∧ ns.length = i) ?_ ?_ (done D nD)⟩
      · exact ⟨[], Mv.of (same_upd nD), hB2.same (same_upd nD), upd_same, bits_nil, rfl⟩
      · intro i H3 hi pv
        obtain ⟨ns, mv3, hB3, eD, hb, hl⟩ := id pv
        refine ⟨rfl, tYes_by (iteT ?_)⟩
        refine ⟨_, rfl, b, 2, rfl, hB3, by decide, by decide, fun H4 y mv4 hB4 y0 y1 => ?_⟩
        exact turn D H3 H4 i y nD hi pv mv4 hB4 (by omega)
    · refine ⟨_, rfl, m, rfl, by omega, by omega, fun D nD => lc_range (lo := 0) (n := m.toNat) (fun i H' => ∃ ns : List Int, Mv b.1 H2 H' ∧ Bag b H' ∧ H' D = some (.lst (ns.map V.int)) ∧ Bits ns ∧ ns.length = i) ?_ ?_ (done D nD)⟩
      · exact ⟨[], Mv.of (same_upd nD), hB2.same (same_upd nD), upd_same, bits_nil, rfl⟩
      · intro i H3 hi pv
        obtain ⟨ns, mv3, hB3, eD, hb, hl⟩ := id pv
        refine ⟨rfl, tYes_by (iteT ?_)⟩
        refine ⟨_, rfl, _, rfl, b, v, rfl, hB3, by omega, by omega, fun H4 y mv4 hB4 y0 y1 => ?_⟩
        refine ⟨rfl, _, rfl, ite2 (fun e => ?_) (fun e => ?_)⟩
        · exact ⟨_, rfl, turn D H3 H4 i fp nD hi pv mv4 hB4 (by omega)⟩
        · exact ⟨_, rfl, _, _, rfl, rfl, turn D H3 H4 i (1 - fp) nD hi pv mv4 hB4 (by omega)⟩
theorem sc__law_flipped : FnScope ["_law_signs", "_law_spots", "_law_at"] ["_law_signs", "_law_spots"] (defScope s__law_flipped) := ⟨rfl, rfl, rfl, by decide +kernel, rfl, by decide +kernel, by decide +kernel⟩
def flip1 (ns ks : List Int) (i : Nat) : Int := if (i : Int) ∈ ks then 1 - ns.getD i 0 else ns.getD i 0
/-- the bits at these places turned -/
def flips (ns ks : List Int) : List Int := (List.range ns.length).map (flip1 ns ks)
theorem flips_len (ns ks : List Int) : (flips ns ks).length = ns.length := by unfold flips; rw [List.length_map, List.length_range]
theorem flips_bits {ns : List Int} (h : Bits ns) (ks : List Int) : Bits (flips ns ks) := by
  intro z hz
  obtain ⟨i, hi, rfl⟩ := List.mem_map.mp hz
  have hi := List.mem_range.mp hi
  have g : ns.getD i 0 = 0 ∨ ns.getD i 0 = 1 := by
    rw [List.getD_eq_getElem?_getD, List.getElem?_eq_getElem hi]
    exact h _ (List.getElem_mem hi)
  unfold flip1
  split <;> omega
def spFlipped (K : PySem.W.Frag) : Sp := fun vs H Q _ => ∃ (a c : Addr) (ns ks : List Int), vs = [.ref a, .ref c] ∧ SqL K H a (ns.map V.int) ∧ SqL K H c (ks.map V.int) ∧ ns.length ≤ 10000 ∧ ∀ (H' : Hp) (p : Addr), Same H H' → H p = none → H' p = some (.lst ((flips ns ks).map V.int)) → Q (.ref p) H'
theorem inV_ints (z : Int) : ∀ ks : List Int, inV (.int z) (ks.map V.int) = decide (z ∈ ks)
  | [] => rfl
  | k :: r => by
    show ((k == z) || inV (.int z) (r.map V.int)) = _
    rw [inV_ints z r]
    by_cases h : z = k
    · subst h
      simp
    · have h2 : (k == z) = false := by simpa using fun e => h e.symm
      rw [h2, Bool.false_or]
      exact decide_eq_decide.mpr ⟨fun hm => .tail _ hm, fun hm => (List.mem_cons.mp hm).elim (fun e => absurd e h) (fun e => e)⟩
theorem ok__law_flipped {f : Addr} {fd : FuncData} {k : Nat} (F : Fun K "_law_flipped" "_law_flipped" s__law_flipped f fd) (n_range : mg "range" = none) (n_len : mg "len" = none) :
    FnOk P w K mg base CX0 (k + 1) f fd ["_law_signs", "_law_spots"] (spFlipped K) := by
  have sc := sc__law_flipped
  refine F.ok sc (fun vs H Q E h => ?_) (fun cdv A outer s H vs Q E hr h => ?_)
  · obtain ⟨a, c, ns, ks, rfl, _⟩ := h
    rfl
  · obtain ⟨a, c, ns, ks, rfl, hA, hC, hl, q⟩ := h
    refine ⟨_, (pss_one (ps_ret (pe_lc (own := [("_law_at", 2)]) (g := gName 2) (by rfl) sc.nd (pi_range1 (by rfl) n_range (pa_cons (pe_callB (call_lenK K rfl) (by rfl) n_len PySem.boot_len (pa_cons (pv 0) pa_nil)) pa_nil)) (blkOk_by (own := [("_law_at", 2)]) (N := ["_law_signs", "_law_spots", "_law_at"]) (sc := defScope s__law_flipped) (by decide +kernel)) (fun _ _ _ _ _ => pg_name (i := 2) sc.nd rfl (Or.inl rfl)) (fun _ _ _ _ _ => pts_nil) (fun _ _ _ _ _ => (pe_ifExp (pt_cmpR (op_inK K rfl) (pv 2) (pv 1) (by rfl)) (pe_op op_sub pe_int (pe_ix (ix_listK K rfl) (pv 0) (pv 2) (fun _ _ => rfl))) (pe_ix (ix_listK K rfl) (pv 0) (pv 2) (fun _ _ => rfl))))))), ?_⟩
    have el : ((((ns.map V.int).length : Nat) : Int)).toNat = ns.length := by rw [List.length_map]; omega
    refine ⟨_, rfl, a, _, rfl, .inl hA, _, rfl, (by rw [List.length_map]; omega), (by rw [List.length_map]; omega), fun D nD => ?_⟩
    rw [el]
    refine lc_range (lo := 0) (n := ns.length) (fun i H' => Same H H' ∧ H' D = some (.lst (((List.range i).map (flip1 ns ks)).map V.int))) ⟨same_upd nD, upd_same⟩ ?_ ?_
    · rintro i H' hi ⟨sm, eD⟩
      have g : ns[i]? = some (ns.getD i 0) := by
        rw [List.getD_eq_getElem?_getD, List.getElem?_eq_getElem hi]
        rfl
      have ga : atI (ns.map V.int) (0 + (i : Int)) = some (.int (ns.getD i 0)) := by
        rw [Int.zero_add]
        exact atI_nat (by rw [List.getElem?_map, g]; rfl)
      have fin : ∀ z, z = flip1 ns ks i → ∃ acc, H' D = some (.lst acc) ∧ acc.length < sizeLine ∧ Same H (upd H' D (.lst (acc ++ [.int z]))) ∧ upd H' D (.lst (acc ++ [.int z])) D = some (.lst (((List.range (i + 1)).map (flip1 ns ks)).map V.int)) := by
        rintro z rfl
        refine ⟨_, eD, ?_, same_mut sm nD, ?_⟩
        · rw [List.length_map, List.length_map, List.length_range]
          exact Nat.lt_of_lt_of_le (show i < 100000 by omega) (by decide)
        · rw [upd_same, List.range_succ, List.map_append, List.map_append]
          rfl
      refine ⟨rfl, tYes_by (iteT ?_)⟩
      refine ⟨_, rfl, _, rfl, c, _, rfl, .inl (sm.seq hC), rfl, ?_, _, rfl, ite2 (fun e => ?_) (fun e => ?_)⟩
      · rw [List.all_eq_true]
        intro v hv
        obtain ⟨z, _, rfl⟩ := List.mem_map.mp hv
        rfl
      · refine ⟨_, rfl, _, rfl, a, _, _, _, rfl, rfl, sm.seq hA, ga, _, _, rfl, rfl, fin _ ?_⟩
        have e : inV (.int (0 + (i : Int))) (ks.map V.int) = true := e
        rw [inV_ints, Int.zero_add] at e
        exact (if_pos (of_decide_eq_true e)).symm
      · refine ⟨_, rfl, _, rfl, a, _, _, _, rfl, rfl, sm.seq hA, ga, fin _ ?_⟩
        have e : ¬ inV (.int (0 + (i : Int))) (ks.map V.int) = true := e
        rw [inV_ints, Int.zero_add] at e
        exact (if_neg (fun z => e (decide_eq_true z))).symm
    · rintro H' ⟨sm, eD⟩
      exact q H' D sm nD eD
/-! ### few hurt bits -/
theorem tb15 {c : Nat} (h : c < 65536) : c / 32768 = if c.testBit 15 then 1 else 0 := by
  rw [Nat.testBit_eq_decide_div_mod_eq]
  have e : c / 2 ^ 15 % 2 = c / 32768 := by
    show c / 32768 % 2 = _
    omega
  rw [e]
  have : c / 32768 = 0 ∨ c / 32768 = 1 := by omega
  rcases this with z | z <;> rw [z] <;> rfl
theorem sh_bit (c i : Nat) : (c * 2 % 65536).testBit i = (decide (i < 16) && (decide (0 < i) && c.testBit (i - 1))) := by
  rw [show (65536 : Nat) = 2 ^ 16 from rfl, Nat.testBit_mod_two_pow]
  cases i with
  | zero =>
    rw [Nat.testBit_zero]
    have : c * 2 % 2 = 0 := by omega
    rw [this]
    rfl
  | succ i =>
    rw [Nat.testBit_succ, show c * 2 / 2 = c by omega]
    simp
/-- a bit, turned where the other is 1 -/
def bx (b e : Int) : Int := if e = 1 then 1 - b else b
def isB (b : Int) : Prop := b = 0 ∨ b = 1
theorem stepR_eq {c : Nat} {b : Int} (h : c < 65536) (hb : isB b) : stepR c b = (c * 2 % 65536) ^^^ (if (c.testBit 15 ^^ decide (b = 1)) = true then 4129 else 0) := by
  unfold stepR
  rw [tb15 h]
  rcases hb with rfl | rfl
  · cases c.testBit 15
    · rw [if_pos (by rfl)]
      simp
    · rw [if_neg (by decide)]
      simp
  · cases c.testBit 15
    · rw [if_neg (by decide)]
      simp
    · rw [if_pos (by rfl)]
      simp
theorem sh_xor (c d : Nat) : (c ^^^ d) * 2 % 65536 = (c * 2 % 65536) ^^^ (d * 2 % 65536) := by
  apply Nat.eq_of_testBit_eq
  intro i
  rw [Nat.testBit_xor, sh_bit, sh_bit, sh_bit, Nat.testBit_xor]
  cases decide (i < 16) <;> cases decide (0 < i) <;> simp
theorem xor_lt {c d : Nat} (hc : c < 65536) (hd : d < 65536) : c ^^^ d < 65536 := Nat.xor_lt_two_pow (n := 16) hc hd
theorem isB_bx {b e : Int} (hb : isB b) (he : isB e) : isB (bx b e) := by
  unfold bx isB at *
  rcases hb with rfl | rfl <;> rcases he with rfl | rfl <;> decide
theorem stepR_lin {c d : Nat} {b e : Int} (hc : c < 65536) (hd : d < 65536) (hb : isB b) (he : isB e) : stepR (c ^^^ d) (bx b e) = stepR c b ^^^ stepR d e := by
  rw [stepR_eq (xor_lt hc hd) (isB_bx hb he), stepR_eq hc hb, stepR_eq hd he, sh_xor, Nat.testBit_xor]
  generalize c * 2 % 65536 = x
  generalize d * 2 % 65536 = y
  have k : ∀ p q : Bool, (if (p ^^ q) = true then 4129 else 0) = ((if p = true then 4129 else 0) ^^^ (if q = true then 4129 else 0) : Nat) := by
    intro p q
    cases p <;> cases q <;> rfl
  have m : decide (bx b e = 1) = (decide (b = 1) ^^ decide (e = 1)) := by
    rcases hb with rfl | rfl <;> rcases he with rfl | rfl <;> decide
  rw [m]
  have a : (c.testBit 15 ^^ d.testBit 15 ^^ (decide (b = 1) ^^ decide (e = 1))) = ((c.testBit 15 ^^ decide (b = 1)) ^^ (d.testBit 15 ^^ decide (e = 1))) := by
    cases c.testBit 15 <;> cases d.testBit 15 <;> cases decide (b = 1) <;> cases decide (e = 1) <;> rfl
  rw [a, k]
  rw [Nat.xor_assoc, Nat.xor_assoc]
  congr 1
  rw [← Nat.xor_assoc y, Nat.xor_comm y, Nat.xor_assoc]
def reg (c : Nat) (bs : List Int) : Nat := bs.foldl stepR c
theorem reg_lt : ∀ {bs : List Int} {c : Nat}, c < 65536 → reg c bs < 65536
  | [], _, h => h
  | b :: r, c, _ => reg_lt (bs := r) (stepR_lt c b)
theorem reg_app (c : Nat) (a b : List Int) : reg c (a ++ b) = reg (reg c a) b := List.foldl_append
theorem bits_cons {b : Int} {r : List Int} (h : Bits (b :: r)) : isB b ∧ Bits r := ⟨h b (.head _), fun z hz => h z (.tail _ hz)⟩
theorem reg_lin : ∀ {bs es : List Int} {c d : Nat}, bs.length = es.length → Bits bs → Bits es → c < 65536 → d < 65536 → reg (c ^^^ d) (List.zipWith bx bs es) = reg c bs ^^^ reg d es
  | [], [], _, _, _, _, _, _, _ => rfl
  | b :: r, e :: t, c, d, hl, hb, he, hc, hd => by
    show reg (stepR (c ^^^ d) (bx b e)) (List.zipWith bx r t) = _
    rw [stepR_lin hc hd (bits_cons hb).1 (bits_cons he).1]
    exact reg_lin (Nat.succ.inj hl) (bits_cons hb).2 (bits_cons he).2 (stepR_lt c b) (stepR_lt d e)
/-- the first bits of a register -/
def tb : Nat → Nat → List Int
  | 0, _ => []
  | k + 1, c => ((c / 32768 : Nat) : Int) :: tb k (c * 2 % 65536)
theorem tb_run : ∀ (k : Nat) {c : Nat}, c < 65536 → reg c (tb k c) = c * 2 ^ k % 65536
  | 0, c, h => by
    show c = c * 1 % 65536
    omega
  | k + 1, c, h => by
    show reg (stepR c ((c / 32768 : Nat) : Int)) (tb k (c * 2 % 65536)) = _
    rw [show stepR c ((c / 32768 : Nat) : Int) = c * 2 % 65536 from if_pos rfl, tb_run k (Nat.mod_lt _ (by decide)), Nat.pow_succ, Nat.mod_mul_mod, Nat.mul_assoc, Nat.mul_comm 2]
theorem tb_wr : ∀ (k : Nat) {c : Nat}, k ≤ 16 → c < 65536 → tb k c = (wr 16 (c : Int)).take k
  | 0, _, _, _ => rfl
  | k + 1, c, hk, h => by
    show ((c / 32768 : Nat) : Int) :: tb k (c * 2 % 65536) = _
    rw [tb_wr k (by omega) (Nat.mod_lt _ (by decide)), wr_shift]
    have e : wr 16 (c : Int) = ((c / 32768 : Nat) : Int) :: (wr 16 (c : Int)).drop 1 := by
      have e2 : ((c : Int) / 2 ^ 15) % 2 = ((c / 32768 : Nat) : Int) := by omega
      show ((c : Int) / 2 ^ 15) % 2 :: _ = _
      rw [e2]
      rfl
    rw [List.take_append_of_le_length (by rw [List.length_drop, wr_len]; omega)]
    conv => rhs; rw [e]
    rfl
theorem even_of {j c : Nat} (hj : j ≤ 15) (h : c * 2 ^ j % 65536 = 0) : c % 2 = 0 := by
  have h1 : 65536 ∣ c * 2 ^ j := Nat.dvd_of_mod_eq_zero h
  have h2 : 2 ^ j * 2 ∣ 65536 := by
    have : 2 ^ j * 2 = 2 ^ (j + 1) := (Nat.pow_succ ..).symm
    rw [this, show (65536 : Nat) = 2 ^ 16 from rfl]
    exact Nat.pow_dvd_pow 2 (by omega)
  have h3 : 2 ^ j * 2 ∣ 2 ^ j * c := by
    rw [Nat.mul_comm _ c]
    exact Nat.dvd_trans h2 h1
  exact Nat.mod_eq_zero_of_dvd (Nat.dvd_of_mul_dvd_mul_left (Nat.pow_pos (by decide)) h3)
theorem lemA : ∀ {s : List Int} {c : Nat}, Bits s → s.length ≤ 16 → c < 65536 → reg c s = 0 → s = tb s.length c ∧ c * 2 ^ s.length % 65536 = 0
  | [], c, _, _, _, h => ⟨rfl, by
    have h : c = 0 := h
    rw [h]
    rfl⟩
  | b :: t, c, hb, hl, hc, h => by
    have hl : t.length + 1 ≤ 16 := hl
    obtain ⟨e1, e2⟩ := lemA (s := t) (c := stepR c b) (bits_cons hb).2 (by omega) (stepR_lt c b) h
    have ev := even_of (by omega) e2
    have hst : ((c / 32768 : Nat) : Int) = b := by
      by_cases z : ((c / 32768 : Nat) : Int) = b
      · exact z
      · exfalso
        have es : stepR c b = (c * 2 % 65536) ^^^ 4129 := if_neg z
        have o : (stepR c b).testBit 0 = true := by
          rw [es, Nat.testBit_xor, sh_bit]
          rfl
        rw [Nat.testBit_zero] at o
        have := of_decide_eq_true o
        omega
    have es : stepR c b = c * 2 % 65536 := if_pos hst
    rw [es] at e1 e2
    refine ⟨?_, ?_⟩
    · show b :: t = ((c / 32768 : Nat) : Int) :: tb t.length (c * 2 % 65536)
      rw [← e1, hst]
    · show c * 2 ^ (t.length + 1) % 65536 = 0
      rw [Nat.mod_mul_mod] at e2
      rw [Nat.pow_succ, Nat.mul_comm _ 2, ← Nat.mul_assoc]
      exact e2
theorem holds_iff {ns : List Int} (hb : Bits ns) : holdsB ns = true ↔ 16 ≤ ns.length ∧ regs ns = 0 := by
  unfold holdsB
  rw [Bool.and_eq_true, decide_eq_true_eq, decide_eq_true_eq]
  refine and_congr_right fun hl => ?_
  have e : regs ns = reg (regs (ns.take (ns.length - 16))) (ns.drop (ns.length - 16)) := by
    show reg 65535 ns = _
    conv => lhs; rw [← List.take_append_drop (ns.length - 16) ns]
    exact reg_app _ _ _
  have hlen : (ns.drop (ns.length - 16)).length = 16 := by rw [List.length_drop]; omega
  have hlt := regs_lt (ns.take (ns.length - 16))
  have ht : tb 16 (regs (ns.take (ns.length - 16))) = sealL (ns.take (ns.length - 16)) := by
    rw [tb_wr 16 (by decide) hlt]
    exact List.take_of_length_le (by rw [wr_len]; decide)
  rw [e]
  constructor
  · intro h
    rw [← h, ← ht, tb_run 16 hlt]
    omega
  · intro h
    have := (lemA (bits_drop hb _) (by omega) hlt h).1
    rw [hlen, ht] at this
    exact this.symm
/-! parity -/
def par (c : Nat) : Bool := (List.range 16).foldl (fun a i => a ^^ c.testBit i) false
theorem par_xor (c d : Nat) : par (c ^^^ d) = (par c ^^ par d) := by
  have : ∀ (l : List Nat) (a b : Bool), l.foldl (fun a i => a ^^ (c ^^^ d).testBit i) (a ^^ b) = (l.foldl (fun a i => a ^^ c.testBit i) a ^^ l.foldl (fun a i => a ^^ d.testBit i) b) := by
    intro l
    induction l with
    | nil => exact fun a b => rfl
    | cons i r ih =>
      intro a b
      rw [List.foldl_cons, List.foldl_cons, List.foldl_cons, ← ih, Nat.testBit_xor]
      congr 1
      cases a <;> cases b <;> cases c.testBit i <;> cases d.testBit i <;> rfl
  exact this (List.range 16) false false
theorem par_sh (c : Nat) : par (c * 2 % 65536) = (par c ^^ c.testBit 15) := by
  unfold par
  simp only [sh_bit]
  have : List.range 16 = [0, 1, 2, 3, 4, 5, 6, 7, 8, 9, 10, 11, 12, 13, 14, 15] := rfl
  rw [this]
  simp only [List.foldl_cons, List.foldl_nil]
  cases c.testBit 15 <;> simp
theorem par_step {c : Nat} {b : Int} (h : c < 65536) (hb : isB b) : par (stepR c b) = (par c ^^ decide (b = 1)) := by
  rw [stepR_eq h hb, par_xor, par_sh]
  have k : ∀ p : Bool, par (if p = true then 4129 else 0) = p := by
    intro p
    cases p
    · decide +kernel
    · decide +kernel
  rw [k]
  cases par c <;> cases c.testBit 15 <;> cases decide (b = 1) <;> rfl
def ones (e : List Int) : Nat := e.countP (fun z => decide (z = 1))
theorem par_reg : ∀ {e : List Int} {c : Nat}, Bits e → c < 65536 → par (reg c e) = (par c ^^ decide (ones e % 2 = 1))
  | [], c, _, _ => by
    show par c = (par c ^^ false)
    rw [Bool.xor_false]
  | b :: r, c, he, hc => by
    show par (reg (stepR c b) r) = _
    rw [par_reg (bits_cons he).2 (stepR_lt c b), par_step hc (bits_cons he).1]
    unfold ones
    rw [List.countP_cons]
    rcases (bits_cons he).1 with rfl | rfl
    · simp
    · simp only [decide_true, if_true]
      have : decide ((List.countP (fun z => decide (z = 1)) r + 1) % 2 = 1) = !decide (List.countP (fun z => decide (z = 1)) r % 2 = 1) := by
        by_cases z : List.countP (fun z => decide (z = 1)) r % 2 = 1
        · rw [decide_eq_true z, decide_eq_false (by omega)]
          rfl
        · rw [decide_eq_false z, decide_eq_true (by omega)]
          rfl
      rw [this]
      cases par c <;> cases decide (List.countP (fun z => decide (z = 1)) r % 2 = 1) <;> rfl
/-! noughts -/
abbrev zs (n : Nat) : List Int := List.replicate n 0
theorem step0 {c : Nat} (h : c < 65536) (hz : stepR c 0 = 0) : c = 0 := by
  obtain ⟨e1, e2⟩ := lemA (s := [0]) (c := c) (fun z hz => .inl (List.mem_singleton.mp hz)) (by decide) h hz
  have e1 : [(0 : Int)] = [((c / 32768 : Nat) : Int)] := e1
  have e3 := (List.cons.inj e1).1
  have e2 : c * 2 ^ 1 % 65536 = 0 := e2
  omega
theorem zs_keep : ∀ (n : Nat) {c : Nat}, c < 65536 → reg c (zs n) = 0 → c = 0
  | 0, _, _, h => h
  | n + 1, c, hc, h => by
    have h : reg (stepR c 0) (zs n) = 0 := h
    exact step0 hc (zs_keep n (stepR_lt c 0) h)
theorem zs_zero : ∀ n : Nat, reg 0 (zs n) = 0
  | 0 => rfl
  | n + 1 => zs_zero n
theorem one_none : ∀ {e : List Int}, Bits e → ones e = 0 → e = zs e.length
  | [], _, _ => rfl
  | b :: r, hb, h => by
    unfold ones at h
    rw [List.countP_cons] at h
    rcases (bits_cons hb).1 with rfl | rfl
    · have := one_none (bits_cons hb).2 (by unfold ones; omega)
      show 0 :: r = 0 :: zs r.length
      rw [← this]
    · simp at h
theorem one_one : ∀ {e : List Int}, Bits e → 0 < ones e → ∃ (i : Nat) (r : List Int), e = zs i ++ 1 :: r ∧ ones r + 1 = ones e ∧ Bits r ∧ r.length < e.length
  | [], _, h => by cases h
  | b :: r, hb, h => by
    rcases (bits_cons hb).1 with rfl | rfl
    · obtain ⟨i, t, e1, e2, e3, e4⟩ := one_one (e := r) (bits_cons hb).2 (by unfold ones at h ⊢; rw [List.countP_cons] at h; simpa using h)
      refine ⟨i + 1, t, by rw [e1]; rfl, ?_, e3, Nat.lt_succ_of_lt e4⟩
      rw [e2]
      unfold ones
      rw [List.countP_cons]
      simp
    · refine ⟨0, r, rfl, ?_, (bits_cons hb).2, Nat.lt_succ_self _⟩
      unfold ones
      rw [List.countP_cons]
      simp
def walk : Nat → Nat → Bool
  | 0, c => c != 32768
  | n + 1, c => c != 32768 && walk n (c * 2 % 65536 ^^^ (if c / 32768 = 0 then 0 else 4129))
theorem walk_all : walk 1000 4129 = true := by decide +kernel
theorem walk_at : ∀ (n : Nat) {m c : Nat}, m ≤ n → c < 65536 → walk n c = true → reg c (zs m) ≠ 32768
  | n, 0, c, _, hc, h => by
    intro z
    have z : c = 32768 := z
    subst z
    cases n <;> simp [walk] at h
  | n + 1, m + 1, c, hm, hc, h => by
    have h : (c != 32768 && walk n (c * 2 % 65536 ^^^ (if c / 32768 = 0 then 0 else 4129))) = true := h
    rw [Bool.and_eq_true] at h
    have e : stepR c 0 = c * 2 % 65536 ^^^ (if c / 32768 = 0 then 0 else 4129) := by
      unfold stepR
      by_cases z : c / 32768 = 0
      · rw [if_pos (show ((c / 32768 : Nat) : Int) = 0 by omega), if_pos z, Nat.xor_zero]
      · rw [if_neg (by omega), if_neg z]
    show reg (stepR c 0) (zs m) ≠ 32768
    exact walk_at n (by omega) (stepR_lt c 0) (by rw [e]; exact h.2)
theorem few {e : List Int} (he : Bits e) (h0 : 0 < ones e) (h3 : ones e ≤ 3) (hl : e.length ≤ 1000) : reg 0 e ≠ 0 := by
  intro hz
  by_cases ho : ones e % 2 = 1
  · have := par_reg he (c := 0) (by decide)
    rw [hz, decide_eq_true ho] at this
    have p0 : par 0 = false := by decide +kernel
    rw [p0] at this
    cases this
  · have h2 : ones e = 2 := by omega
    obtain ⟨i, r, e1, e2, e3, e4⟩ := one_one he h0
    obtain ⟨j, t, f1, f2, f3, f4⟩ := one_one e3 (by omega)
    have f5 := one_none f3 (by omega)
    rw [e1, f1, f5, reg_app, zs_zero] at hz
    have hz : reg (stepR 0 1) (zs j ++ 1 :: zs t.length) = 0 := hz
    rw [reg_app] at hz
    have hz : reg (stepR (reg (stepR 0 1) (zs j)) 1) (zs t.length) = 0 := hz
    have hz := zs_keep _ (stepR_lt _ _) hz
    have q := (lemA (s := [1]) (c := reg (stepR 0 1) (zs j)) (fun z hz => .inr (List.mem_singleton.mp hz)) (by decide) (reg_lt (stepR_lt _ _)) hz)
    obtain ⟨q1, q2⟩ := q
    have q1 : [(1 : Int)] = [((reg (stepR 0 1) (zs j) / 32768 : Nat) : Int)] := q1
    have q3 := (List.cons.inj q1).1
    have q2 : reg (stepR 0 1) (zs j) * 2 ^ 1 % 65536 = 0 := q2
    have lt := reg_lt (bs := zs j) (stepR_lt 0 1)
    have hj : j ≤ 1000 := by
      have := congrArg List.length f1
      rw [List.length_append, List.length_replicate] at this
      omega
    refine walk_at 1000 hj (by decide : (4129 : Nat) < 65536) walk_all ?_
    have s1 : stepR 0 1 = 4129 := by decide +kernel
    rw [s1] at q3 q2 lt
    omega
theorem burst {i : Nat} {d : List Int} {n : Nat} (hd : Bits (1 :: d)) (hl : d.length ≤ 15) : reg 0 (zs i ++ (1 :: d) ++ zs n) ≠ 0 := by
  intro hz
  rw [reg_app, reg_app, zs_zero] at hz
  have hz := zs_keep _ (reg_lt (by decide)) hz
  have q := (lemA hd (by show d.length + 1 ≤ 16; omega) (by decide) hz).1
  have q : (1 : Int) :: d = ((0 / 32768 : Nat) : Int) :: tb d.length (0 * 2 % 65536) := q
  exact absurd (List.cons.inj q).1 (by decide)
/-! the turned places -/
def eI (n : Nat) (ks : List Int) : List Int := (List.range n).map fun (i : Nat) => if (i : Int) ∈ ks then 1 else 0
theorem eI_len (n : Nat) (ks : List Int) : (eI n ks).length = n := by unfold eI; rw [List.length_map, List.length_range]
theorem eI_at {n i : Nat} (ks : List Int) (h : i < n) : (eI n ks)[i]? = some (if (i : Int) ∈ ks then 1 else 0) := by
  unfold eI
  rw [List.getElem?_map, List.getElem?_range h]
  rfl
theorem eI_bits (n : Nat) (ks : List Int) : Bits (eI n ks) := by
  intro z hz
  obtain ⟨i, _, rfl⟩ := List.mem_map.mp hz
  by_cases m : (i : Int) ∈ ks
  · exact .inr (if_pos m)
  · exact .inl (if_neg m)
theorem flips_zip (ns ks : List Int) : flips ns ks = List.zipWith bx ns (eI ns.length ks) := by
  apply List.ext_getElem?
  intro i
  by_cases h : i < ns.length
  · have e1 : (flips ns ks)[i]? = some (flip1 ns ks i) := by
      unfold flips
      rw [List.getElem?_map, List.getElem?_range h]
      rfl
    rw [e1, List.getElem?_zipWith, eI_at ks h, List.getElem?_eq_getElem h]
    have g : ns.getD i 0 = ns[i] := by
      rw [List.getD_eq_getElem?_getD, List.getElem?_eq_getElem h]
      rfl
    unfold flip1 bx
    rw [g]
    by_cases m : (i : Int) ∈ ks
    · simp [m]
    · simp [m]
  · rw [List.getElem?_eq_none (by rw [flips_len]; omega), List.getElem?_eq_none (by rw [List.length_zipWith, eI_len]; omega)]
theorem hurt_told {ns ks : List Int} (hb : Bits ns) (hh : holdsB ns = true) (hk : reg 0 (eI ns.length ks) ≠ 0) : holdsB (flips ns ks) = false := by
  cases z : holdsB (flips ns ks) with
  | false => rfl
  | true =>
    exfalso
    have h1 := ((holds_iff hb).mp hh).2
    have h2 := ((holds_iff (flips_bits hb ks)).mp z).2
    rw [flips_zip] at h2
    have l := reg_lin (bs := ns) (es := eI ns.length ks) (c := 65535) (d := 0) (eI_len _ _).symm hb (eI_bits _ _) (by decide) (by decide)
    rw [Nat.xor_zero] at l
    have h1 : reg 65535 ns = 0 := h1
    have h2 : reg 65535 (List.zipWith bx ns (eI ns.length ks)) = 0 := h2
    rw [h2, h1, Nat.zero_xor] at l
    exact hk l.symm
theorem flip_back {ns ks : List Int} (hb : Bits ns) : flips (flips ns ks) ks = ns := by
  apply List.ext_getElem?
  intro i
  by_cases h : i < ns.length
  · have at1 : ∀ ms : List Int, i < ms.length → (flips ms ks)[i]? = some (flip1 ms ks i) := fun ms hm => by
      unfold flips
      rw [List.getElem?_map, List.getElem?_range hm]
      rfl
    rw [at1 _ (by rw [flips_len]; exact h), List.getElem?_eq_getElem h]
    have g : ns.getD i 0 = ns[i] := by
      rw [List.getD_eq_getElem?_getD, List.getElem?_eq_getElem h]
      rfl
    have g2 : (flips ns ks).getD i 0 = flip1 ns ks i := by
      rw [List.getD_eq_getElem?_getD, at1 ns h]
      rfl
    unfold flip1
    rw [g2]
    unfold flip1
    rw [g]
    by_cases m : (i : Int) ∈ ks
    · rw [if_pos m, if_pos m]
      congr 1
      omega
    · rw [if_neg m, if_neg m]
  · rw [List.getElem?_eq_none (by rw [flips_len, flips_len]; omega), List.getElem?_eq_none (by omega)]
/-! how many -/
theorem cnt_or {p q r : Nat → Bool} (h : ∀ i, r i = true → p i = true ∨ q i = true) : ∀ l : List Nat, l.countP r ≤ l.countP p + l.countP q
  | [] => Nat.le_refl _
  | a :: l => by
    have ih := cnt_or h l
    have ha := h a
    rw [List.countP_cons, List.countP_cons, List.countP_cons]
    cases hr : r a <;> cases hp : p a <;> cases hq : q a <;> simp [hr, hp, hq] at ha ⊢ <;> omega
theorem cnt_eq (k : Int) : ∀ n : Nat, (List.range n).countP (fun (i : Nat) => decide ((i : Int) = k)) ≤ 1 ∧ ((n : Int) ≤ k → (List.range n).countP (fun (i : Nat) => decide ((i : Int) = k)) = 0)
  | 0 => ⟨Nat.zero_le 1, fun _ => rfl⟩
  | n + 1 => by
    obtain ⟨h1, h2⟩ := cnt_eq k n
    rw [List.range_succ, List.countP_append, List.countP_singleton]
    constructor
    · by_cases z : (n : Int) = k
      · rw [h2 (by omega)]
        split <;> omega
      · rw [if_neg (by simpa using z)]
        omega
    · intro hk
      rw [h2 (by omega), if_neg (by simp; omega)]
theorem ones_eq (n : Nat) (ks : List Int) : ones (eI n ks) = (List.range n).countP (fun (i : Nat) => decide ((i : Int) ∈ ks)) := by
  unfold ones eI
  rw [List.countP_map]
  congr 1
  funext i
  show decide ((if (i : Int) ∈ ks then (1 : Int) else 0) = 1) = _
  by_cases m : (i : Int) ∈ ks <;> simp [m]
theorem ones_le (n : Nat) : ∀ ks : List Int, ones (eI n ks) ≤ ks.length
  | [] => by
    rw [ones_eq]
    simp
  | k :: ks => by
    have ih := ones_le n ks
    rw [ones_eq] at ih ⊢
    have h := cnt_or (p := fun (i : Nat) => decide ((i : Int) = k)) (q := fun (i : Nat) => decide ((i : Int) ∈ ks)) (r := fun (i : Nat) => decide ((i : Int) ∈ k :: ks)) (fun i hi => by
      rcases List.mem_cons.mp (of_decide_eq_true hi) with e | e
      · exact .inl (decide_eq_true e)
      · exact .inr (decide_eq_true e)) (List.range n)
    have h1 := (cnt_eq k n).1
    rw [List.length_cons]
    omega
theorem ones_pos {n : Nat} {ks : List Int} {k : Nat} (hk : (k : Int) ∈ ks) (hn : k < n) : 0 < ones (eI n ks) := by
  rw [ones_eq]
  exact List.countP_pos_iff.mpr ⟨k, List.mem_range.mpr hn, decide_eq_true hk⟩
theorem few_told {n : Nat} {ks : List Int} {k : Nat} (hn : n ≤ 1000) (hk : (k : Int) ∈ ks) (hkn : k < n) (h3 : ks.length ≤ 3) : reg 0 (eI n ks) ≠ 0 :=
  few (eI_bits n ks) (ones_pos hk hkn) (Nat.le_trans (ones_le n ks) h3) (by rw [eI_len]; exact hn)
theorem all_zs : ∀ {l : List Int}, (∀ z ∈ l, z = 0) → l = zs l.length := fun {l} h => List.eq_replicate_iff.mpr ⟨rfl, h⟩
theorem burst_told {n b : Nat} {ks : List Int} (hb : (b : Int) ∈ ks) (hbn : b < n) (hk : ∀ k ∈ ks, (b : Int) ≤ k ∧ k ≤ b + 15) : reg 0 (eI n ks) ≠ 0 := by
  have zero : ∀ i : Nat, i < n → (i < b ∨ b + 15 < i) → (eI n ks)[i]? = some 0 := fun i hi h => by
    rw [eI_at ks hi, if_neg (fun m => by have := hk _ m; omega)]
  obtain ⟨d, hd⟩ : ∃ d, (eI n ks).drop b = 1 :: d := by
    have e : (eI n ks)[b]? = some 1 := by rw [eI_at ks hbn, if_pos hb]
    have hl : b < (eI n ks).length := by rw [eI_len]; exact hbn
    rw [List.getElem?_eq_getElem hl] at e
    refine ⟨(eI n ks).drop (b + 1), ?_⟩
    rw [List.drop_eq_getElem_cons hl, Option.some.inj e]
  have dl : d.length + 1 = n - b := by
    have := congrArg List.length hd
    rw [List.length_drop, eI_len, List.length_cons] at this
    omega
  have split1 : eI n ks = (eI n ks).take b ++ (1 :: d.take 15 ++ d.drop 15) := by
    rw [List.cons_append, List.take_append_drop, ← hd, List.take_append_drop]
  have h1 : (eI n ks).take b = zs ((eI n ks).take b).length := all_zs (fun z hz => by
    obtain ⟨i, hi⟩ := List.mem_iff_getElem?.mp hz
    have hib : i < b := by
      have := (List.getElem?_eq_some_iff.mp hi).1
      rw [List.length_take] at this
      omega
    rw [List.getElem?_take_of_lt hib, zero i (by omega) (.inl hib)] at hi
    exact (Option.some.inj hi).symm)
  have dat : ∀ j : Nat, d[j]? = (eI n ks)[b + 1 + j]? := fun j => by
    have this : ((eI n ks).drop b)[j + 1]? = (1 :: d)[j + 1]? := by rw [hd]
    rw [List.getElem?_drop, List.getElem?_cons_succ] at this
    rw [← this]
    congr 1
    omega
  have h2 : d.drop 15 = zs (d.drop 15).length := all_zs (fun z hz => by
    obtain ⟨i, hi⟩ := List.mem_iff_getElem?.mp hz
    rw [List.getElem?_drop, dat] at hi
    have hin : b + 1 + (15 + i) < n := by
      have := (List.getElem?_eq_some_iff.mp hi).1
      rw [eI_len] at this
      exact this
    rw [zero _ hin (.inr (by omega))] at hi
    exact (Option.some.inj hi).symm)
  have hbits : Bits (1 :: d.take 15) := by
    intro z hz
    rcases List.mem_cons.mp hz with rfl | hz
    · exact .inr rfl
    · have : z ∈ (eI n ks).drop b := by rw [hd]; exact .tail _ (List.mem_of_mem_take hz)
      exact eI_bits n ks z (List.mem_of_mem_drop this)
  rw [split1, h1, h2, ← List.append_assoc]
  exact burst hbits (by rw [List.length_take]; omega)
theorem sc_law : FnScope ["_law_script", "_law_bag_here", "_law_turn", "_law_most", "_law_signs", "_law_whole", "_law_hurt_now", "_law_spots", "_law_begin", "_law_other", "_law_k", "_law_at"] ["_law_script"] (defScope s_law) := ⟨rfl, rfl, rfl, by decide +kernel, rfl, by decide +kernel, by decide +kernel⟩
def spLaw (K : PySem.W.Frag) : Sp := fun vs H Q _ => ∃ (a : Addr) (ns : List Int), vs = [.ref a] ∧ SqL K H a (ns.map V.int) ∧ ∀ H', Q (.bl true) H'
theorem rep1 (d : Int) : ∀ m : Nat, (List.replicate m [V.int d]).flatten = (List.replicate m d).map V.int
  | 0 => rfl
  | m + 1 => by
    rw [List.replicate_succ, List.flatten_cons, rep1 d m, List.replicate_succ]
    rfl
/-- places of which it is told -/
def Gd (n : Nat) (ks : List Int) : Prop := (ks.length ≤ 3 ∧ (∃ k : Nat, (k : Int) ∈ ks ∧ k < n)) ∨ (∃ g : Nat, (g : Int) ∈ ks ∧ g < n ∧ ∀ k ∈ ks, (g : Int) ≤ k ∧ k ≤ g + 15)
theorem Gd.told {n : Nat} {ks : List Int} (h : Gd n ks) (hn : n ≤ 1000) : reg 0 (eI n ks) ≠ 0 := by
  rcases h with ⟨h3, k, hk, hkn⟩ | ⟨g, hg, hgn, hk⟩
  · exact few_told hn hk hkn h3
  · exact burst_told hg hgn hk
theorem Gd.filter {n : Nat} {ks : List Int} (h : Gd n ks) : Gd n (ks.filter fun k => decide (k < (n : Int))) := by
  rcases h with ⟨h3, k, hk, hkn⟩ | ⟨g, hg, hgn, hk⟩
  · exact .inl ⟨Nat.le_trans (List.length_filter_le _ _) h3, k, List.mem_filter.mpr ⟨hk, decide_eq_true (by omega)⟩, hkn⟩
  · exact .inr ⟨g, List.mem_filter.mpr ⟨hg, decide_eq_true (by omega)⟩, hgn, fun k hm => hk k (List.mem_filter.mp hm).1⟩
theorem ok_law {f : Addr} {fd : FuncData} {k n : Nat} (F : Fun K "law" "law" s_law f fd) (n_len : mg "len" = none) (n_range : mg "range" = none)
    (c__law_bag : Cal P w K mg base k "_law_bag" ["_law_script"] (spBag K)) (c__law_bits : Cal P w K mg base k "_law_bits" ["_law_bag_here", "_law_size"] spBits) (c__law_flipped : Cal P w K mg base k "_law_flipped" ["_law_signs", "_law_spots"] (spFlipped K))
    (c__law_of : Cal P w K mg base k "_law_of" ["_law_bag_here", "_law_some"] (spOf K)) (c__law_pick : Cal P w K mg base k "_law_pick" ["_law_bag_here", "_law_top"] spPick) (c__law_same : Cal P w K mg base k "_law_same" ["_law_found", "_law_due"] (spSame K (n + 1)))
    (c_sealed : Cal P w K mg base k "sealed" ["bits"] (spSealed K)) (c_holds : Cal P w K mg base k "holds" ["bits"] (spHolds K)) :
    FnOk P w K mg base CX0 (k + 1) f fd ["_law_script"] (spLaw K) := by
  have sc := sc_law
  refine F.ok sc (fun vs H Q E h => ?_) (fun cdv A outer s H vs Q E hr h => ?_)
  · obtain ⟨a, ns, rfl, _⟩ := h
    rfl
  · obtain ⟨a, ns, rfl, hS, q⟩ := h
    refine ⟨_, (pss_cons (ps_set (i := 1) sc.nd rfl (.inr rfl) (pe_callC c__law_bag hr (by rfl) (pa_cons (pv 0) pa_nil)))
 (pss_cons (ps_for PassesOwn.never rfl (pi_range1 (by rfl) n_range (pa_cons pe_int pa_nil)) (pg_name (i := 2) sc.nd rfl (.inl rfl))
  (pss_cons (ps_set (i := 3) sc.nd rfl (.inl rfl) (pe_callC c__law_of hr (by rfl) (pa_cons (pv 1) (pa_cons (pe_lst (pa_cons pe_int (pa_cons pe_int (pa_cons pe_int pa_nil)))) pa_nil))))
 (pss_cons (ps_set (i := 4) sc.nd rfl (.inl rfl) (pe_callC c__law_bits hr (by rfl) (pa_cons (pv 1) (pa_cons (pe_callC c__law_pick hr (by rfl) (pa_cons (pv 1) (pa_cons (pv 3) pa_nil))) pa_nil))))
 (pss_cons (ps_if (pt_cmpR op_eq (pe_callC c__law_pick hr (by rfl) (pa_cons (pv 1) (pa_cons pe_int pa_nil))) pe_int (nomark _))
  (pss_one (ps_set (i := 4) sc.nd rfl (.inl rfl) (pe_op op_cat (pv 4) (pe_op op_rep (pe_lst (pa_cons (pe_callC c__law_pick hr (by rfl) (pa_cons (pv 1) (pa_cons pe_int pa_nil))) pa_nil)) (pe_callC c__law_pick hr (by rfl) (pa_cons (pv 1) (pa_cons pe_int pa_nil)))))))
  pss_nil)
 (pss_cons (ps_set (i := 5) sc.nd rfl (.inr rfl) (pe_callC c_sealed hr (by rfl) (pa_cons (pv 4) pa_nil)))
 (pss_cons (ps_if (PW.pt (pw_or (pt_not (pt_val (pe_callC c__law_same hr (by rfl) (pa_cons (pe_callC c_holds hr (by rfl) (pa_cons (pv 5) pa_nil)) (pa_cons pe_bl pa_nil))))) (pw_or1 (pt_cmpR op_ne (pe_callB (call_lenK K rfl) (by rfl) n_len PySem.boot_len (pa_cons (pv 5) pa_nil)) (pe_op op_add (pe_callB (call_lenK K rfl) (by rfl) n_len PySem.boot_len (pa_cons (pv 4) pa_nil)) pe_int) (nomark _)))))
  (pss_one (ps_ret pe_bl))
  pss_nil)
 (pss_one (ps_for PassesOwn.never rfl (pi_range1 (by rfl) n_range (pa_cons pe_int pa_nil)) (pg_name (i := 6) sc.nd rfl (.inl rfl))
  (pss_cons (ps_setLc (i := 7) (own := [("_law_k", 10)]) (g := gName 10) (by rfl) sc.nd rfl rfl (sw_true rfl rfl rfl (by decide +kernel)) (pi_range1 (by rfl) n_range (pa_cons (pe_op op_add pe_int (pe_callC c__law_pick hr (by rfl) (pa_cons (pv 1) (pa_cons pe_int pa_nil)))) pa_nil)) (blkOk_by (own := [("_law_k", 10)]) (N := ["_law_script", "_law_bag_here", "_law_turn", "_law_most", "_law_signs", "_law_whole", "_law_hurt_now", "_law_spots", "_law_begin", "_law_other", "_law_k", "_law_at"]) (sc := defScope s_law) (by decide +kernel)) (fun _ _ _ _ _ => pg_name (i := 10) sc.nd rfl (Or.inl rfl)) (fun _ _ _ _ _ => pts_nil) (fun _ _ _ _ _ => (pe_callC c__law_pick hr (by rfl) (pa_cons (pv 1) (pa_cons (pe_callB (call_lenK K rfl) (by rfl) n_len PySem.boot_len (pa_cons (pv 5) pa_nil)) pa_nil)))))
 (pss_cons (ps_if (pt_cmpR op_eq (pe_callC c__law_pick hr (by rfl) (pa_cons (pv 1) (pa_cons pe_int pa_nil))) pe_int (nomark _))
  (pss_cons (ps_set (i := 8) sc.nd rfl (.inr rfl) (pe_callC c__law_pick hr (by rfl) (pa_cons (pv 1) (pa_cons (pe_callB (call_lenK K rfl) (by rfl) n_len PySem.boot_len (pa_cons (pv 5) pa_nil)) pa_nil))))
 (pss_one (ps_set (i := 7) sc.nd rfl (.inl rfl) (pe_op op_cat (pe_lst (pa_cons (pv 8) pa_nil)) (pe_lc (own := [("_law_k", 10)]) (g := gName 10) (by rfl) sc.nd (pi_range2 (by rfl) n_range (pa_cons pe_int (pa_cons pe_int pa_nil))) (blkOk_by (own := [("_law_k", 10)]) (N := ["_law_script", "_law_bag_here", "_law_turn", "_law_most", "_law_signs", "_law_whole", "_law_hurt_now", "_law_spots", "_law_begin", "_law_other", "_law_k", "_law_at"]) (sc := defScope s_law) (by decide +kernel)) (fun _ _ _ _ _ => pg_name (i := 10) sc.nd rfl (Or.inl rfl)) (fun _ _ _ _ _ => (pts_one (pt_cmpR op_eq (pe_callC c__law_pick hr (by rfl) (pa_cons (pv 1) (pa_cons pe_int pa_nil))) pe_int (nomark _)))) (fun _ _ _ _ _ => (pe_op op_add (pv 8) (pv 10))))))))
  pss_nil)
 (pss_cons (ps_setLc (i := 7) (own := [("_law_at", 11)]) (g := gName 11) (by rfl) sc.nd rfl rfl (sw_true rfl rfl rfl (by decide +kernel)) (pi_listK K rfl (pv 7)) (blkOk_by (own := [("_law_at", 11)]) (N := ["_law_script", "_law_bag_here", "_law_turn", "_law_most", "_law_signs", "_law_whole", "_law_hurt_now", "_law_spots", "_law_begin", "_law_other", "_law_k", "_law_at"]) (sc := defScope s_law) (by decide +kernel)) (fun _ _ _ _ _ => pg_name (i := 11) sc.nd rfl (Or.inl rfl)) (fun _ _ _ _ _ => (pts_one (pt_cmpR op_lt (pv 11) (pe_callB (call_lenK K rfl) (by rfl) n_len PySem.boot_len (pa_cons (pv 5) pa_nil)) (nomark _)))) (fun _ _ _ _ _ => (pv 11)))
 (pss_cons (ps_set (i := 9) sc.nd rfl (.inl rfl) (pe_callC c__law_flipped hr (by rfl) (pa_cons (pv 5) (pa_cons (pv 7) pa_nil))))
 (pss_one (ps_if (PW.pt (pw_or (pt_not (pt_val (pe_callC c__law_same hr (by rfl) (pa_cons (pe_callC c_holds hr (by rfl) (pa_cons (pv 9) pa_nil)) (pa_cons pe_bl pa_nil))))) (pw_or1 (pt_cmpR op_notBl (pe_callC c_holds hr (by rfl) (pa_cons (pe_callC c__law_flipped hr (by rfl) (pa_cons (pv 9) (pa_cons (pv 7) pa_nil))) pa_nil)) pe_bl (nomark _)))))
  (pss_one (ps_ret pe_bl))
  pss_nil))))))))))))))
 (pss_one (ps_ret pe_bl)))), ?_⟩
    refine ⟨_, rfl, a, ns, rfl, hS, fun H1 b s1 nb hB => ?_⟩
    refine ⟨3, rfl, by decide, by decide, for_range (lo := 0) (n := 3) (fun i σ H' => ∃ y2 y3 y4 y5 y6 y7 y8 y9 y10 y11, σ = [some (.ref a), some (.ref b.1), y2, y3, y4, y5, y6, y7, y8, y9, y10, y11] ∧ Bag b H') ⟨none, none, none, none, none, none, none, none, none, none, rfl, hB⟩ ?_ ?_⟩
    · rintro i σ H1 hi ⟨y2, y3, y4, y5, y6, y7, y8, y9, y10, y11, rfl, hB⟩
      -- most
      refine ⟨_, rfl, (by show 3 ≤ sizeLine; decide), fun p0 n0 => ?_⟩
      have h0 := (SH.nil hB).new (o := .lst [.int 200, .int 30, .int 1]) n0
      refine ⟨b, p0, _, rfl, h0.bag, h0.ne (.head _), upd_same, (by show 0 < 3; decide), (by show 3 < 1000; decide), fun H2 v mv2 hB2 hv => ?_⟩
      obtain ⟨m, rfl, hm0, hm1⟩ : ∃ m : Int, v = .int m ∧ 0 < m ∧ m ≤ 200 := by
        rcases List.mem_cons.mp hv with rfl | hv
        · exact ⟨200, rfl, by decide, by decide⟩
        rcases List.mem_cons.mp hv with rfl | hv
        · exact ⟨30, rfl, by decide, by decide⟩
        rw [List.mem_singleton.mp hv]
        exact ⟨1, rfl, by decide, by decide⟩
      -- signs
      refine ⟨_, rfl, _, rfl, _, rfl, b, m, rfl, hB2, hm0, by omega, fun H3 d mv3 hB3 d0 d1 => ?_⟩
      refine ⟨b, d, rfl, hB3, by omega, by omega, fun H4 p sg mv4 hB4 np ep hb hl => ?_⟩
      have h4 : SH b H4 [(p, .lst (sg.map V.int))] := (SH.nil hB3).newM mv4 hB4 np ep
      refine name_by ?_
      dsimp only
      refine if_by (J := fun σ1 H1 => ∃ p sg, σ1 = [some (.ref a), some (.ref b.1), some (.int (0 + (i : Int))), some (.int m), some (.ref p), y5, y6, y7, y8, y9, y10, y11] ∧ SH b H1 [(p, .lst (sg.map V.int))] ∧ Bits sg ∧ sg.length ≤ 900) ?_ (fun rest => ?_)
      · rintro σ1 H5 ⟨p, sg, rfl, h5, hb, hl⟩
        -- whole
        refine ⟨_, rfl, p, sg, rfl, SqL.of (h5.get (.head _)), hb, by omega, fun H6 w s6 n6 e6 => ?_⟩
        have h6 := h5.newS s6 n6 e6
        have hwl : (sg ++ sealL sg).length = sg.length + 16 := by rw [List.length_append, seal_len]
        have hwb : Bits (sg ++ sealL sg) := bits_app hb (seal_bits sg)
        have hwh : holdsB (sg ++ sealL sg) = true := holds_sealed
        generalize hW : sg ++ sealL sg = W at h6 hwl hwb hwh
        refine name_by ?_
        dsimp only
        refine if_by (J := fun σ1 H1 => σ1 = [some (.ref a), some (.ref b.1), some (.int (0 + (i : Int))), some (.int m), some (.ref p), some (.ref w), y6, y7, y8, y9, y10, y11] ∧ SH b H1 [(w, .lst (W.map V.int))]) ?_ (fun rest => ?_)
        · rintro σ1 H7 ⟨rfl, h7⟩
          refine ⟨4, rfl, by decide, by decide, for_range (lo := 0) (n := 4) (fun j σ H' => ∃ y6 y7 y8 y9 y10 y11, σ = [some (.ref a), some (.ref b.1), some (.int (0 + (i : Int))), some (.int m), some (.ref p), some (.ref w), y6, y7, y8, y9, y10, y11] ∧ SH b H' [(w, .lst (W.map V.int))]) ⟨_, _, _, _, _, _, rfl, h7⟩ ?_ ?_⟩
          · rintro j σ H8 hj ⟨y6, y7, y8, y9, y10, y11, rfl, h8⟩
            have lenW : ((W.map V.int).length : Int) = (W.length : Int) := by rw [List.length_map]
            have hWp : 0 < W.length := by omega
            have hWl : W.length ≤ 1000 := by omega
            -- spots
            refine ⟨_, rfl, b, 3, rfl, h8.bag, by decide, by decide, fun H9 d mv9 hB9 d0 d1 => ?_⟩
            have h9 := h8.mv mv9 hB9
            refine ⟨1, d, rfl, rfl, 1 + d, rfl, by omega, by omega, fun D nD => lc_range (lo := 0) (n := (1 + d).toNat) (fun i H' => ∃ ks : List Int, SH b H' [(D, .lst (ks.map V.int)), (w, .lst (W.map V.int))] ∧ ks.length = i ∧ ∀ k ∈ ks, 0 ≤ k ∧ k < (W.length : Int)) ⟨[], h9.new nD, rfl, fun _ hk => absurd hk List.not_mem_nil⟩ ?_ ?_⟩
            · rintro t H10 ht ⟨ks, h10, hk, hks⟩
              refine ⟨rfl, tYes_by (iteT ?_)⟩
              refine ⟨_, rfl, _, rfl, w, _, rfl, .inl (SqL.of (h10.get (.tail _ (.head _)))), b, _, rfl, h10.bag, (by omega), (by omega), fun H11 y mv11 hB11 y0 y1 => ?_⟩
              have h11 := h10.mv mv11 hB11
              refine ⟨_, h11.get (.head _), ?_, ks ++ [y], ?_, by simp [hk], fun k hkm => ?_⟩
              · rw [List.length_map, hk]
                exact sz4l (by omega)
              · rw [List.map_append]
                exact h11.put (h9.apart nD)
              · rcases List.mem_append.mp hkm with z | z
                · exact hks k z
                · rw [List.mem_singleton.mp z]
                  exact ⟨y0, by omega⟩
            · rintro H10 ⟨ks, h10, hk, hks⟩
              have hgd : Gd W.length ks := by
                refine .inl ⟨by omega, ?_⟩
                cases ks with
                | nil =>
                  exfalso
                  have : (0 : Nat) = (1 + d).toNat := hk
                  omega
                | cons k r =>
                  have := hks k (.head _)
                  exact ⟨k.toNat, by rw [Int.toNat_of_nonneg this.1]; exact .head _, by omega⟩
              refine name_by ?_
              dsimp only
              refine if_by (J := fun σ1 H1 => ∃ s7 ks y8, σ1 = [some (.ref a), some (.ref b.1), some (.int (0 + (i : Int))), some (.int m), some (.ref p), some (.ref w), some (.int (0 + (j : Int))), some (.ref s7), y8, y9, y10, y11] ∧ SH b H1 [(s7, .lst (ks.map V.int)), (w, .lst (W.map V.int))] ∧ Gd W.length ks ∧ ks.length ≤ 20) ?_ (fun rest => ?_)
              · rintro σ1 H11 ⟨s7, ks, y8, rfl, h11, hgd, hkl⟩
                -- the places within the row
                refine ⟨_, rfl, s7, rfl, ⟨_, SqL.of (h11.get (.head _))⟩, fun D2 nD2 => lc_list (K := K) (a := s7) (xs := ks.map V.int) (fun i H' => SH b H' [(D2, .lst (((ks.take i).filter fun k => decide (k < (W.length : Int))).map V.int)), (s7, .lst (ks.map V.int)), (w, .lst (W.map V.int))]) (h11.new nD2) (fun i H' _ h => SqL.of (h.get (.tail _ (.head _)))) ?_ ?_⟩
                · intro t x H12 hx h12
                  obtain ⟨z, hz, rfl⟩ := getI hx
                  have et : (ks.take (t + 1)).filter (fun k => decide (k < (W.length : Int))) = (ks.take t).filter (fun k => decide (k < (W.length : Int))) ++ [z].filter (fun k => decide (k < (W.length : Int))) := by
                    rw [take_more hz, List.filter_append]
                  refine ⟨rfl, ?_⟩
                  refine ⟨_, rfl, _, rfl, w, _, rfl, .inl (SqL.of (h12.get (.tail _ (.tail _ (.head _))))), _, _, rfl, rfl, _, rfl, ite2 (fun e => ?_) (fun e => ?_)⟩
                  · refine ⟨_, rfl, _, h12.get (.head _), ?_, ?_⟩
                    · rw [List.length_map]
                      exact sz4l (by have := List.length_filter_le (fun k => decide (k < (W.length : Int))) (ks.take t); rw [List.length_take] at this; omega)
                    · have e : z < (W.length : Int) := by
                        have := of_decide_eq_true e
                        rw [lenW] at this
                        exact this
                      rw [et, show [z].filter (fun k => decide (k < (W.length : Int))) = [z] by simp [e], List.map_append]
                      exact h12.put (h11.apart nD2)
                  · have e : ¬ z < (W.length : Int) := fun y => e (decide_eq_true (by rw [lenW]; exact y))
                    rw [et, show [z].filter (fun k => decide (k < (W.length : Int))) = [] by simp [e], List.append_nil]
                    exact h12
                · intro H12 h12
                  rw [List.length_map, List.take_length] at h12
                  have hg2 := hgd.filter
                  have hfl : (ks.filter fun k => decide (k < (W.length : Int))).length ≤ 20 := Nat.le_trans (List.length_filter_le _ _) hkl
                  generalize (ks.filter fun k => decide (k < (W.length : Int))) = fs at h12 hg2 hfl
                  -- other
                  refine ⟨_, rfl, _, rfl, w, D2, W, fs, rfl, SqL.of (h12.get (.tail _ (.tail _ (.head _)))), SqL.of (h12.get (.head _)), by omega, fun H13 p13 s13 n13 e13 => ?_⟩
                  have h13 := h12.newS s13 n13 e13
                  refine ⟨_, rfl, p13, flips W fs, rfl, SqL.of (h13.get (.head _)), flips_bits hwb fs, fun H14 s14 => ?_⟩
                  rw [hurt_told hwb hwh (hg2.told hWl)]
                  refine ⟨.bl false, .bl false, .bool false, rfl, .bl false, .bl false, .inl ⟨false, rfl⟩, rfl, fun H15 s15 => ?_⟩
                  have h15 := (h13.same s14).same s15
                  refine ⟨_, rfl, iteF ?_⟩
                  refine ⟨_, rfl, _, rfl, p13, D2, flips W fs, fs, rfl, SqL.of (h15.get (.head _)), SqL.of (h15.get (.tail _ (.head _))), by rw [flips_len]; omega, fun H16 p16 s16 n16 e16 => ?_⟩
                  have h16 := h15.newS s16 n16 e16
                  rw [flip_back hwb] at e16
                  refine ⟨p16, W, rfl, SqL.of e16, hwb, fun H17 s17 => ?_⟩
                  rw [hwh]
                  refine ⟨true, true, rfl, rfl, _, rfl, iteF ?_⟩
                  exact ⟨_, _, _, _, _, _, rfl, (h16.same s17).sub (fun q hq => by
                    rw [List.mem_singleton.mp hq]
                    exact .tail _ (.tail _ (.tail _ (.tail _ (.head _)))))⟩
              · refine ⟨_, rfl, b, 2, rfl, h10.bag, by decide, by decide, fun H11 e mv11 hB11 e0 e1 => ?_⟩
                have h11 := h10.mv mv11 hB11
                refine ⟨rfl, _, rfl, ite2 (fun _ => ?_) (fun _ => ?_)⟩
                · refine ⟨_, rfl, _, rfl, w, _, rfl, .inl (SqL.of (h11.get (.tail _ (.head _)))), b, _, rfl, h11.bag, by omega, by omega, fun H12 g mv12 hB12 g0 g1 => ?_⟩
                  have h12 := h11.mv mv12 hB12
                  refine ⟨_, rfl, (by show 1 ≤ sizeLine; decide), fun p13 n13 => ?_⟩
                  have h13 := (h12.sub (L' := [(w, .lst (W.map V.int))]) (fun q hq => .tail _ hq)).new (o := .lst [.int g]) n13
                  refine ⟨1, 16, rfl, ⟨by decide, by decide, by decide, by decide⟩, fun D3 nD3 => lc_range (lo := 1) (n := 15) (fun i H' => ∃ es : List Int, SH b H' [(D3, .lst (es.map V.int)), (p13, .lst [.int g]), (w, .lst (W.map V.int))] ∧ es.length ≤ i ∧ ∀ k ∈ es, g ≤ k ∧ k ≤ g + 15) ⟨[], h13.new nD3, Nat.le_refl _, fun _ hk => absurd hk List.not_mem_nil⟩ ?_ ?_⟩
                  · rintro t H14 ht ⟨es, h14, hel, hes⟩
                    refine ⟨rfl, ?_⟩
                    refine ⟨_, rfl, b, 2, rfl, h14.bag, by decide, by decide, fun H15 y mv15 hB15 y0 y1 => ?_⟩
                    have h15 := h14.mv mv15 hB15
                    refine ⟨rfl, _, rfl, ite2 (fun _ => ?_) (fun _ => ?_)⟩
                    · refine ⟨_, rfl, _, rfl, _, _, rfl, rfl, _, h15.get (.head _), ?_, es ++ [g + (1 + (t : Int))], ?_, ?_, fun k hkm => ?_⟩
                      · rw [List.length_map]
                        exact sz4l (by omega)
                      · rw [List.map_append]
                        exact h15.put (h13.apart nD3)
                      · rw [List.length_append]
                        show es.length + 1 ≤ t + 1
                        omega
                      · rcases List.mem_append.mp hkm with z | z
                        · exact hes k z
                        · rw [List.mem_singleton.mp z]
                          omega
                    · exact ⟨es, h15, by omega, hes⟩
                  · rintro H14 ⟨es, h14, hel, hes⟩
                    refine ⟨p13, D3, _, _, rfl, rfl, h14.get (.tail _ (.head _)), h14.get (.head _), ?_, fun p15 n15 => ?_⟩
                    · rw [List.length_map]
                      show 1 + es.length ≤ sizeLine
                      exact sz4 (by omega)
                    have h15 := h14.new (o := .lst ((g :: es).map V.int)) n15
                    refine rest _ _ ⟨p15, g :: es, _, rfl, h15.sub (fun q hq => by
                      rcases List.mem_cons.mp hq with rfl | hq
                      · exact .head _
                      · rw [List.mem_singleton.mp hq]
                        exact .tail _ (.tail _ (.tail _ (.head _)))), .inr ⟨g.toNat, by rw [Int.toNat_of_nonneg g0]; exact .head _, by omega, fun k hkm => ?_⟩, ?_⟩
                    · rw [Int.toNat_of_nonneg g0]
                      rcases List.mem_cons.mp hkm with rfl | z
                      · omega
                      · exact hes k z
                    · show es.length + 1 ≤ 20
                      omega
                · exact rest _ _ ⟨D, ks, _, rfl, h11, hgd, by omega⟩
          · rintro σ H8 ⟨y6, y7, y8, y9, y10, y11, rfl, h8⟩
            exact ⟨_, _, _, _, _, _, _, _, _, _, rfl, h8.bag⟩
        · refine ⟨_, rfl, w, W, rfl, SqL.of (h6.get (.head _)), hwb, fun H7 s7 => ?_⟩
          rw [hwh]
          refine ⟨.bl true, .bl true, .bool true, rfl, .bl true, .bl true, .inl ⟨true, rfl⟩, rfl, fun H8 s8 => ?_⟩
          have h8 := (h6.same s7).same s8
          refine ⟨_, rfl, iteF ?_⟩
          refine ⟨_, rfl, w, _, rfl, .inl (SqL.of (h8.get (.head _))), _, rfl, p, _, rfl, .inl (SqL.of (h8.get (.tail _ (.head _)))), _, _, rfl, rfl, rfl, _, rfl, ifF ?_ ?_⟩
          · rw [List.length_map, List.length_map, hwl]
            simp
          · exact rest _ _ ⟨rfl, h8.sub (fun q hq => by
              rw [List.mem_singleton.mp hq]
              exact .head _)⟩
      · -- if pick 6 == 0
        refine ⟨_, rfl, b, 6, rfl, hB4, by decide, by decide, fun H5 e mv5 hB5 e0 e1 => ?_⟩
        have h5 := h4.mv mv5 hB5
        refine ⟨rfl, _, rfl, ite2 (fun _ => ?_) (fun _ => ?_)⟩
        · refine ⟨_, rfl, _, rfl, b, 2, rfl, hB5, by decide, by decide, fun H6 d2 mv6 hB6 c0 c1 => ?_⟩
          refine ⟨(by show 1 ≤ sizeLine; decide), fun p7 n7 => ?_⟩
          have h7 := (h5.mv mv6 hB6).new (o := .lst [.int d2]) n7
          refine ⟨_, rfl, b, 700, rfl, h7.bag, by decide, by decide, fun H8 r mv8 hB8 r0 r1 => ?_⟩
          have h8 := h7.mv mv8 hB8
          refine ⟨p7, r, _, rfl, rfl, h8.get (.head _), by omega, by omega, ?_, fun p9 n9 => ?_⟩
          · show 1 * r.toNat ≤ sizeLine
            exact sz4 (by omega)
          rw [rep1]
          have h9 := h8.new (o := .lst ((List.replicate r.toNat d2).map V.int)) n9
          refine ⟨p, p9, _, _, rfl, rfl, h9.get (.tail _ (.tail _ (.head _))), upd_same, ?_, fun p10 n10 => ?_⟩
          · rw [List.length_map, List.length_map, List.length_replicate]
            exact sz4 (by omega)
          rw [← List.map_append]
          have h10 := h9.new (o := .lst ((sg ++ List.replicate r.toNat d2).map V.int)) n10
          exact rest _ _ ⟨p10, _, rfl, h10.sub (fun q hq => by
              rw [List.mem_singleton.mp hq]
              exact .head _), bits_app hb (fun z hz => by have := List.eq_of_mem_replicate hz; omega), by rw [List.length_append, List.length_replicate]; omega⟩
        · exact rest _ _ ⟨p, sg, rfl, h5, hb, by omega⟩
    · rintro σ H1 ⟨y2, y3, y4, y5, y6, y7, y8, y9, y10, y11, rfl, hB⟩
      exact q _
end
/-! ### the end -/
theorem all_mk {l : PySem.W.OpenLaw} {w : World} {K : PySem.W.Frag} {h : Heap} {mg : Str → Option Value} {fa f0 f1 f2 f3 f4 f5 f6 f7 f8 f9 f10 f11 : Addr} (X : K.In h) (G : h.Ns mainGlobals mg) (hfa : mg "law" = some (.ref fa))
    {oc0 : Value} {od0 an0 : Option Addr} {sl0 : Array (Option Value)} {kV0 dc0 pm0 cd0 ct0 : Value}
    {oc1 : Value} {od1 an1 : Option Addr} {sl1 : Array (Option Value)} {kV1 dc1 pm1 cd1 ct1 : Value}
    {oc2 : Value} {od2 an2 : Option Addr} {sl2 : Array (Option Value)} {kV2 dc2 pm2 cd2 ct2 : Value}
    {oc3 : Value} {od3 an3 : Option Addr} {sl3 : Array (Option Value)} {kV3 dc3 pm3 cd3 ct3 : Value}
    {oc4 : Value} {od4 an4 : Option Addr} {sl4 : Array (Option Value)} {kV4 dc4 pm4 cd4 ct4 : Value}
    {oc5 : Value} {od5 an5 : Option Addr} {sl5 : Array (Option Value)} {kV5 dc5 pm5 cd5 ct5 : Value}
    {oc6 : Value} {od6 an6 : Option Addr} {sl6 : Array (Option Value)} {kV6 dc6 pm6 cd6 ct6 : Value}
    {oc7 : Value} {od7 an7 : Option Addr} {sl7 : Array (Option Value)} {kV7 dc7 pm7 cd7 ct7 : Value}
    {oc8 : Value} {od8 an8 : Option Addr} {sl8 : Array (Option Value)} {kV8 dc8 pm8 cd8 ct8 : Value}
    {oc9 : Value} {od9 an9 : Option Addr} {sl9 : Array (Option Value)} {kV9 dc9 pm9 cd9 ct9 : Value}
    {oc10 : Value} {od10 an10 : Option Addr} {sl10 : Array (Option Value)} {kV10 dc10 pm10 cd10 ct10 : Value}
    {oc11 : Value} {od11 an11 : Option Addr} {sl11 : Array (Option Value)} {kV11 dc11 pm11 cd11 ct11 : Value}
    {t_SEAL : Tok}
    {a_TURNED : Addr} {o_TURNED : Option Addr} {m_TURNED : Nat} {sl_TURNED : Array (Option Value)} {t_TURNED0 t_TURNED1 t_TURNED2 : Tok}
    (a0 : PySem.W.nsIn K mainGlobals "check_bits" = some (some (.ref f0)))
    (l0 : K.lookup f0 = some ⟨oc0, od0, .func (PySem.W.fnOf "check_bits" "check_bits" (defArgs s_check_bits) (defBody s_check_bits) (defScope s_check_bits) .none kV0 dc0 pm0 an0 cd0 ct0), sl0⟩)
    (c0 : PySem.W.codeIn K cd0 "check_bits" = true)
    (k0 : PySem.W.keepIn K (.ref f0) = true)
    (a1 : PySem.W.nsIn K mainGlobals "moved_on" = some (some (.ref f1)))
    (l1 : K.lookup f1 = some ⟨oc1, od1, .func (PySem.W.fnOf "moved_on" "moved_on" (defArgs s_moved_on) (defBody s_moved_on) (defScope s_moved_on) .none kV1 dc1 pm1 an1 cd1 ct1), sl1⟩)
    (c1 : PySem.W.codeIn K cd1 "moved_on" = true)
    (k1 : PySem.W.keepIn K (.ref f1) = true)
    (a2 : PySem.W.nsIn K mainGlobals "seal_of" = some (some (.ref f2)))
    (l2 : K.lookup f2 = some ⟨oc2, od2, .func (PySem.W.fnOf "seal_of" "seal_of" (defArgs s_seal_of) (defBody s_seal_of) (defScope s_seal_of) .none kV2 dc2 pm2 an2 cd2 ct2), sl2⟩)
    (c2 : PySem.W.codeIn K cd2 "seal_of" = true)
    (k2 : PySem.W.keepIn K (.ref f2) = true)
    (a3 : PySem.W.nsIn K mainGlobals "sealed" = some (some (.ref f3)))
    (l3 : K.lookup f3 = some ⟨oc3, od3, .func (PySem.W.fnOf "sealed" "sealed" (defArgs s_sealed) (defBody s_sealed) (defScope s_sealed) .none kV3 dc3 pm3 an3 cd3 ct3), sl3⟩)
    (c3 : PySem.W.codeIn K cd3 "sealed" = true)
    (k3 : PySem.W.keepIn K (.ref f3) = true)
    (a4 : PySem.W.nsIn K mainGlobals "holds" = some (some (.ref f4)))
    (l4 : K.lookup f4 = some ⟨oc4, od4, .func (PySem.W.fnOf "holds" "holds" (defArgs s_holds) (defBody s_holds) (defScope s_holds) .none kV4 dc4 pm4 an4 cd4 ct4), sl4⟩)
    (c4 : PySem.W.codeIn K cd4 "holds" = true)
    (k4 : PySem.W.keepIn K (.ref f4) = true)
    (a5 : PySem.W.nsIn K mainGlobals "_law_bag" = some (some (.ref f5)))
    (l5 : K.lookup f5 = some ⟨oc5, od5, .func (PySem.W.fnOf "_law_bag" "_law_bag" (defArgs s__law_bag) (defBody s__law_bag) (defScope s__law_bag) .none kV5 dc5 pm5 an5 cd5 ct5), sl5⟩)
    (c5 : PySem.W.codeIn K cd5 "_law_bag" = true)
    (k5 : PySem.W.keepIn K (.ref f5) = true)
    (a6 : PySem.W.nsIn K mainGlobals "_law_pick" = some (some (.ref f6)))
    (l6 : K.lookup f6 = some ⟨oc6, od6, .func (PySem.W.fnOf "_law_pick" "_law_pick" (defArgs s__law_pick) (defBody s__law_pick) (defScope s__law_pick) .none kV6 dc6 pm6 an6 cd6 ct6), sl6⟩)
    (c6 : PySem.W.codeIn K cd6 "_law_pick" = true)
    (k6 : PySem.W.keepIn K (.ref f6) = true)
    (a7 : PySem.W.nsIn K mainGlobals "_law_of" = some (some (.ref f7)))
    (l7 : K.lookup f7 = some ⟨oc7, od7, .func (PySem.W.fnOf "_law_of" "_law_of" (defArgs s__law_of) (defBody s__law_of) (defScope s__law_of) .none kV7 dc7 pm7 an7 cd7 ct7), sl7⟩)
    (c7 : PySem.W.codeIn K cd7 "_law_of" = true)
    (k7 : PySem.W.keepIn K (.ref f7) = true)
    (a8 : PySem.W.nsIn K mainGlobals "_law_same" = some (some (.ref f8)))
    (l8 : K.lookup f8 = some ⟨oc8, od8, .func (PySem.W.fnOf "_law_same" "_law_same" (defArgs s__law_same) (defBody s__law_same) (defScope s__law_same) .none kV8 dc8 pm8 an8 cd8 ct8), sl8⟩)
    (c8 : PySem.W.codeIn K cd8 "_law_same" = true)
    (k8 : PySem.W.keepIn K (.ref f8) = true)
    (a9 : PySem.W.nsIn K mainGlobals "_law_bits" = some (some (.ref f9)))
    (l9 : K.lookup f9 = some ⟨oc9, od9, .func (PySem.W.fnOf "_law_bits" "_law_bits" (defArgs s__law_bits) (defBody s__law_bits) (defScope s__law_bits) .none kV9 dc9 pm9 an9 cd9 ct9), sl9⟩)
    (c9 : PySem.W.codeIn K cd9 "_law_bits" = true)
    (k9 : PySem.W.keepIn K (.ref f9) = true)
    (a10 : PySem.W.nsIn K mainGlobals "_law_flipped" = some (some (.ref f10)))
    (l10 : K.lookup f10 = some ⟨oc10, od10, .func (PySem.W.fnOf "_law_flipped" "_law_flipped" (defArgs s__law_flipped) (defBody s__law_flipped) (defScope s__law_flipped) .none kV10 dc10 pm10 an10 cd10 ct10), sl10⟩)
    (c10 : PySem.W.codeIn K cd10 "_law_flipped" = true)
    (k10 : PySem.W.keepIn K (.ref f10) = true)
    (a11 : PySem.W.nsIn K mainGlobals "law" = some (some (.ref f11)))
    (l11 : K.lookup f11 = some ⟨oc11, od11, .func (PySem.W.fnOf "law" "law" (defArgs s_law) (defBody s_law) (defScope s_law) .none kV11 dc11 pm11 an11 cd11 ct11), sl11⟩)
    (c11 : PySem.W.codeIn K cd11 "law" = true)
    (k11 : PySem.W.keepIn K (.ref f11) = true)
    (z_enumerate : PySem.W.nsIn K mainGlobals "enumerate" = some none)
    (z_list : PySem.W.nsIn K mainGlobals "list" = some none)
    (z_len : PySem.W.nsIn K mainGlobals "len" = some none)
    (z_all : PySem.W.nsIn K mainGlobals "all" = some none)
    (z_bool : PySem.W.nsIn K mainGlobals "bool" = some none)
    (z_int : PySem.W.nsIn K mainGlobals "int" = some none)
    (z_isinstance : PySem.W.nsIn K mainGlobals "isinstance" = some none)
    (z_range : PySem.W.nsIn K mainGlobals "range" = some none)
    (z_str : PySem.W.nsIn K mainGlobals "str" = some none)
    (z_tuple : PySem.W.nsIn K mainGlobals "tuple" = some none)
    (q_SEAL : PySem.W.nsIn K mainGlobals "SEAL" = some (some (.int 16 t_SEAL)))
    (q_TURNED : PySem.W.nsIn K mainGlobals "TURNED" = some (some (.ref a_TURNED)))
    (w_TURNED : K.lookup a_TURNED = some ⟨.type "tuple", o_TURNED, .seq #[.int 3 t_TURNED0, .int 10 t_TURNED1, .int 15 t_TURNED2] m_TURNED, sl_TURNED⟩) :
    ∃ fd : FuncData, (∀ (s : Shared) (v : Value), BindsTo s fd ⟨[v], []⟩ [("_law_script", v)]) ∧ ∀ base : Heap, K.In base → base.Ns mainGlobals mg → FnOk l.prog w K mg base CX0 4 fa fd ["_law_script"] (spLaw K) := by
  have e := hfa.symm.trans (PySem.W.mg_of X G a11)
  cases e
  have F0 := fun_mk (st := s_check_bits) l0 c0 k0
  have b0 := F0.binds (ps := ["bits"]) fun _ _ _ _ _ _ us hl => match us, hl with | [_], _ => rfl
  have F1 := fun_mk (st := s_moved_on) l1 c1 k1
  have b1 := F1.binds (ps := ["cells", "bit"]) fun _ _ _ _ _ _ us hl => match us, hl with | [_, _], _ => rfl
  have F2 := fun_mk (st := s_seal_of) l2 c2 k2
  have b2 := F2.binds (ps := ["bits"]) fun _ _ _ _ _ _ us hl => match us, hl with | [_], _ => rfl
  have F3 := fun_mk (st := s_sealed) l3 c3 k3
  have b3 := F3.binds (ps := ["bits"]) fun _ _ _ _ _ _ us hl => match us, hl with | [_], _ => rfl
  have F4 := fun_mk (st := s_holds) l4 c4 k4
  have b4 := F4.binds (ps := ["bits"]) fun _ _ _ _ _ _ us hl => match us, hl with | [_], _ => rfl
  have F5 := fun_mk (st := s__law_bag) l5 c5 k5
  have b5 := F5.binds (ps := ["_law_script"]) fun _ _ _ _ _ _ us hl => match us, hl with | [_], _ => rfl
  have F6 := fun_mk (st := s__law_pick) l6 c6 k6
  have b6 := F6.binds (ps := ["_law_bag_here", "_law_top"]) fun _ _ _ _ _ _ us hl => match us, hl with | [_, _], _ => rfl
  have F7 := fun_mk (st := s__law_of) l7 c7 k7
  have b7 := F7.binds (ps := ["_law_bag_here", "_law_some"]) fun _ _ _ _ _ _ us hl => match us, hl with | [_, _], _ => rfl
  have F8 := fun_mk (st := s__law_same) l8 c8 k8
  have b8 := F8.binds (ps := ["_law_found", "_law_due"]) fun _ _ _ _ _ _ us hl => match us, hl with | [_, _], _ => rfl
  have F9 := fun_mk (st := s__law_bits) l9 c9 k9
  have b9 := F9.binds (ps := ["_law_bag_here", "_law_size"]) fun _ _ _ _ _ _ us hl => match us, hl with | [_, _], _ => rfl
  have F10 := fun_mk (st := s__law_flipped) l10 c10 k10
  have b10 := F10.binds (ps := ["_law_signs", "_law_spots"]) fun _ _ _ _ _ _ us hl => match us, hl with | [_, _], _ => rfl
  have F11 := fun_mk (st := s_law) l11 c11 k11
  have b11 := F11.binds (ps := ["_law_script"]) fun _ _ _ _ _ _ us hl => match us, hl with | [_], _ => rfl
  have h_TURNED : ∀ H, SqT K H a_TURNED [.int 3, .int 10, .int 15] := fun H => .inr ⟨_, _, _, w_TURNED, rfl, rfl, (by show 3 ≤ sizeLine; decide), .cons ⟨_, rfl⟩ (.cons ⟨_, rfl⟩ (.cons ⟨_, rfl⟩ (.nil)))⟩
  refine ⟨PySem.W.fnOf "law" "law" (defArgs s_law) (defBody s_law) (defScope s_law) .none kV11 dc11 pm11 an11 cd11 ct11, fun s v => .of_eq rfl, fun base _ _ => ?_⟩
  have C_check_bits : Cal l.prog w K mg base 1 "check_bits" ["bits"] (spCheck K) := ⟨f0, _, ok_check_bits F0 (PySem.W.mg_none_of X G z_enumerate), PySem.W.mg_of X G a0, k0, b0⟩
  have C_moved_on : Cal l.prog w K mg base 1 "moved_on" ["cells", "bit"] (spMoved K) := ⟨f1, _, ok_moved_on F1 (PySem.W.mg_of X G q_TURNED) h_TURNED, PySem.W.mg_of X G a1, k1, b1⟩
  have C_seal_of : Cal l.prog w K mg base 2 "seal_of" ["bits"] (spSeal K) := ⟨f2, _, ok_seal_of F2 (PySem.W.mg_of X G q_SEAL) (C_check_bits.mono (by decide)) (C_moved_on.mono (by decide)), PySem.W.mg_of X G a2, k2, b2⟩
  have C_sealed : Cal l.prog w K mg base 3 "sealed" ["bits"] (spSealed K) := ⟨f3, _, ok_sealed F3 (PySem.W.mg_none_of X G z_list) (C_seal_of.mono (by decide)), PySem.W.mg_of X G a3, k3, b3⟩
  have C_holds : Cal l.prog w K mg base 3 "holds" ["bits"] (spHolds K) := ⟨f4, _, ok_holds F4 (PySem.W.mg_none_of X G z_len) (PySem.W.mg_none_of X G z_list) (PySem.W.mg_of X G q_SEAL) (C_check_bits.mono (by decide)) (C_seal_of.mono (by decide)), PySem.W.mg_of X G a4, k4, b4⟩
  have C__law_bag : Cal l.prog w K mg base 1 "_law_bag" ["_law_script"] (spBag K) := ⟨f5, _, ok__law_bag F5 (PySem.W.mg_none_of X G z_len) (PySem.W.mg_none_of X G z_list), PySem.W.mg_of X G a5, k5, b5⟩
  have C__law_pick : Cal l.prog w K mg base 1 "_law_pick" ["_law_bag_here", "_law_top"] (spPick) := ⟨f6, _, ok__law_pick F6 (PySem.W.mg_none_of X G z_len), PySem.W.mg_of X G a6, k6, b6⟩
  have C__law_of : Cal l.prog w K mg base 2 "_law_of" ["_law_bag_here", "_law_some"] (spOf K) := ⟨f7, _, ok__law_of F7 (PySem.W.mg_none_of X G z_len) (C__law_pick.mono (by decide)), PySem.W.mg_of X G a7, k7, b7⟩
  have C__law_same : Cal l.prog w K mg base 1 "_law_same" ["_law_found", "_law_due"] (spSame K 1) := ⟨f8, _, ok__law_same F8 (PySem.W.mg_of X G a8) b8 (PySem.W.mg_none_of X G z_len) (PySem.W.mg_none_of X G z_all) (PySem.W.mg_none_of X G z_bool) (PySem.W.mg_none_of X G z_int) (PySem.W.mg_none_of X G z_isinstance) (PySem.W.mg_none_of X G z_list) (PySem.W.mg_none_of X G z_range) (PySem.W.mg_none_of X G z_str) (PySem.W.mg_none_of X G z_tuple) 1, PySem.W.mg_of X G a8, k8, b8⟩
  have C__law_bits : Cal l.prog w K mg base 2 "_law_bits" ["_law_bag_here", "_law_size"] (spBits) := ⟨f9, _, ok__law_bits F9 (PySem.W.mg_none_of X G z_range) (C__law_pick.mono (by decide)), PySem.W.mg_of X G a9, k9, b9⟩
  have C__law_flipped : Cal l.prog w K mg base 1 "_law_flipped" ["_law_signs", "_law_spots"] (spFlipped K) := ⟨f10, _, ok__law_flipped F10 (PySem.W.mg_none_of X G z_range) (PySem.W.mg_none_of X G z_len), PySem.W.mg_of X G a10, k10, b10⟩
  exact ok_law F11 (PySem.W.mg_none_of X G z_len) (PySem.W.mg_none_of X G z_range) (C__law_bag.mono (by decide)) (C__law_bits.mono (by decide)) (C__law_flipped.mono (by decide)) (C__law_of.mono (by decide)) (C__law_pick.mono (by decide)) (C__law_same.mono (by decide)) (C_sealed.mono (by decide)) (C_holds.mono (by decide))
end WB
open PySem PySem.W PyProof.Rows
set_option maxRecDepth 100000 in
set_option maxHeartbeats 0 in
theorem PySem.Challenge.cw_warbleline_k05_whole_few_hurt_bits_are_t_holds : PySem.Challenge.rw_warbleline_k05_whole_few_hurt_bits_are_t.Holds := by
  w_on; o_law; k_head; (case hw => w_witness2)
  k_fill
  refine L2.walk_of (l := PySem.Challenge.rw_warbleline_k05_whole_few_hurt_bits_are_t) (n := 63) (k := 4) (x := "_law_script") (CX := fun _ => L2.CX0) (sp := fun w => WB.spLaw _) rfl (by decide) rfl ⟨rfl, by decide, by decide⟩ (fun w h Y => PySem.W.kIn_of Y) ?F (fun _ _ a ns hl _ hS => ⟨a, ns, rfl, hS, fun _ => rfl⟩) (fun _ _ _ _ _ h => h)
  case F =>
    intro w mg fa h KX G hmg
    refine' WB.all_mk KX G hmg ?a0 ?l0 ?c0 ?k0 ?a1 ?l1 ?c1 ?k1 ?a2 ?l2 ?c2 ?k2 ?a3 ?l3 ?c3 ?k3 ?a4 ?l4 ?c4 ?k4 ?a5 ?l5 ?c5 ?k5 ?a6 ?l6 ?c6 ?k6 ?a7 ?l7 ?c7 ?k7 ?a8 ?l8 ?c8 ?k8 ?a9 ?l9 ?c9 ?k9 ?a10 ?l10 ?c10 ?k10 ?a11 ?l11 ?c11 ?k11 ?z_enumerate ?z_list ?z_len ?z_all ?z_bool ?z_int ?z_isinstance ?z_range ?z_str ?z_tuple ?q_SEAL ?q_TURNED ?w_TURNED
    (case a0 => k_is)
    (case l0 => k_is)
    (case c0 => k_is)
    (case k0 => k_is)
    (case a1 => k_is)
    (case l1 => k_is)
    (case c1 => k_is)
    (case k1 => k_is)
    (case a2 => k_is)
    (case l2 => k_is)
    (case c2 => k_is)
    (case k2 => k_is)
    (case a3 => k_is)
    (case l3 => k_is)
    (case c3 => k_is)
    (case k3 => k_is)
    (case a4 => k_is)
    (case l4 => k_is)
    (case c4 => k_is)
    (case k4 => k_is)
    (case a5 => k_is)
    (case l5 => k_is)
    (case c5 => k_is)
    (case k5 => k_is)
    (case a6 => k_is)
    (case l6 => k_is)
    (case c6 => k_is)
    (case k6 => k_is)
    (case a7 => k_is)
    (case l7 => k_is)
    (case c7 => k_is)
    (case k7 => k_is)
    (case a8 => k_is)
    (case l8 => k_is)
    (case c8 => k_is)
    (case k8 => k_is)
    (case a9 => k_is)
    (case l9 => k_is)
    (case c9 => k_is)
    (case k9 => k_is)
    (case a10 => k_is)
    (case l10 => k_is)
    (case c10 => k_is)
    (case k10 => k_is)
    (case a11 => k_is)
    (case l11 => k_is)
    (case c11 => k_is)
    (case k11 => k_is)
    (case z_enumerate => k_is)
    (case z_list => k_is)
    (case z_len => k_is)
    (case z_all => k_is)
    (case z_bool => k_is)
    (case z_int => k_is)
    (case z_isinstance => k_is)
    (case z_range => k_is)
    (case z_str => k_is)
    (case z_tuple => k_is)
    (case q_SEAL => k_is)
    (case q_TURNED => k_is)
    (case w_TURNED => k_is)
