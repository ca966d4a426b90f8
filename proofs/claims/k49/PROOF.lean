import PyProof.Rows.All
import Wide.All
import OpenK.AllK
import Wide.FinOn
import HandS.Base
import HandS.Call
import HandS.List
import HandS.Comp
import HandS.Ends
import HandS.Iter
import HandS.Text
import HandS.Words
import HandS.WordsList
import HandS.IsInst
import HandS.More
import HandS.Wide
import HandS.Style
import HandS.EndBits
import HandS.Exc
import HandS.ExcOwn
import HandS.ExcInit
import HandS.ExcField
import HandS.TryOnly
import HandS.WordsExc
import HandS.FStr
import HandS.Defaults
import HandS.Lambda
import HandS.EndTab
import HandS.Dict
import HandS.Conv
import HandS.Zip
import HandS.MakeKwOnly
import HandS.Deep
import KE.DatumOrd
import HandS.Rev
import PyProof.Rows.RowBridgeK
import HandS.SetFor
import HandS.EndOwn
import PySem.Challenge.RW_warbleline_k49_whole_no_key_is_lost
set_option Elab.async false
set_option linter.all false
set_option maxRecDepth 100000
set_option maxHeartbeats 2000000
namespace WB
open PySem PySem.Spec PyProof.Rows L2
/-! ### a def that may be called by its name, letting nothing out -/
def Cal (P : Program) (w : World) (K : PySem.W.Frag) (mg : Str → Option Value) (base : Heap) (k : Nat) (nm : Str) (ps : List Str) (sp : Sp) : Prop :=
  ∃ (f : Addr) (fd : FuncData), FnOk P w K mg base CX0 k f fd ps sp ∧ mg nm = some (.ref f) ∧ PySem.W.keepIn K (.ref f) = true ∧ Binds K fd ps []
theorem Cal.mono {P : Program} {w : World} {K : PySem.W.Frag} {mg : Str → Option Value} {base : Heap} {j k : Nat} {nm : Str} {ps : List Str} {sp : Sp} (c : Cal P w K mg base j nm ps sp) (h : j ≤ k) : Cal P w K mg base k nm ps sp := by
  obtain ⟨f, fd, a, b, d, e⟩ := c
  exact ⟨f, fd, a.mono h, b, d, e⟩
section
variable {X : Cx} {k : Nat} {nm : Str} {ps : List Str} {sp : Sp} {e : Expr} {es : List Expr} {t : TA} {p pos : Pos}
theorem pe_callC (c : Cal X.prog X.w X.K X.mg X.base k nm ps sp) (hr : Room k X.A) (hg : Gl X nm) (ha : PA X (e :: es) t) (hdb : (nm == ("__debug__" : Str)) = false := by decide)
    (he : starEach (e :: es) X.env = (false, eval e X.env) :: starEach es X.env := by rfl) (hpl : (backTo pos (starEach es X.env)).any (·.1) = false := by rfl) :
    PE X (.Call (.Name nm p) (e :: es) [] pos) (tCall sp [] E0 t) := by
  obtain ⟨f, fd, a, b, d, g⟩ := c
  exact pe_call a hr hg b d g .nil pass0 ha hdb he hpl
theorem pe_callC0 (c : Cal X.prog X.w X.K X.mg X.base k nm ps sp) (hr : Room k X.A) (hg : Gl X nm) (hdb : (nm == ("__debug__" : Str)) = false := by decide) :
    PE X (.Call (.Name nm p) [] [] pos) (tCall sp [] E0 tNil) := by
  obtain ⟨f, fd, a, b, d, g⟩ := c
  exact pe_call0 a hr hg b d g .nil pass0 hdb
end
/-! ### rules with the written part by its name (a comprehension's block has the same one) -/
section
variable {X : Cx} (K : PySem.W.Frag)
theorem ix_listK (h : X.K = K) : IxR X (rIxL K) := by subst h; exact ix_list
theorem ix_tupK (h : X.K = K) : IxR X (rIxT K) := by subst h; exact ix_tup
theorem ix_seqK (h : X.K = K) : IxR X (rIx K) := by subst h; exact ix_seq
def rLenK (K : PySem.W.Frag) : List V → Hp → VK → Prop := fun xs H Q => ∃ p ys, xs = [.ref p] ∧ (SqL K H p ys ∨ SqT K H p ys) ∧ Q (.int ys.length) H
theorem call_lenK (h : X.K = K) : CallR X (.builtin "len") (rLenK K) := by subst h; exact call_len_seq
def rListK (K : PySem.W.Frag) : List V → Hp → VK → Prop := fun xs H Q => ∃ p ys, xs = [.ref p] ∧ (SqL K H p ys ∨ SqT K H p ys) ∧ ∀ l, H l = none → Q (.ref l) (upd H l (.lst ys))
theorem call_listK (h : X.K = K) : CallR X (.type "list") (rListK K) := by subst h; exact call_list_of
theorem call_isiK1 (h : X.K = K) : CallR X (.builtin "isinstance") (rIsi K) := by subst h; exact call_isi
theorem call_isiTK (h : X.K = K) : CallR X (.builtin "isinstance") (rIsiT K) := by subst h; exact call_isiT
theorem op_inK (h : X.K = K) : OpR X (compareOp .In) (rIn K false) := by subst h; exact op_in_seq
theorem op_notInK (h : X.K = K) : OpR X (compareOp .NotIn) (rIn K true) := by subst h; exact op_notIn_seq
theorem op_eqDK (h : X.K = K) (hu : X.A.units + 64 < cLine) : OpR X (compareOp .Eq) (rEqD K) := by subst h; exact op_eqD hu
theorem op_neDK (h : X.K = K) (hu : X.A.units + 64 < cLine) : OpR X (compareOp .NotEq) (rNeD K) := by subst h; exact op_neD hu
theorem sl_listK (h : X.K = K) : SlR X (rSlL K) := by subst h; exact sl_list
theorem cr_allK (h : X.K = K) (hc : X.calm = true) : CallR X (.builtin "all") (rAll K) := by subst h; exact cr_all hc
variable {o e : Expr} {es : List Expr} {to : TE} {t : TA} {name : Str} {apos cpos : Pos} {T id : String} {r : V → List V → Hp → VK → Prop}
theorem pe_bm0K (h : X.K = K) (pa : PlainAttrs T) (slot : Slot T name id) (hty : typeOf (.builtin id) = pure (.type "method_descriptor")) (hm : MtR X id r) (ho : PE X o to)
    (hbase : attributeBase o name X.env (eval o X.env) = eval o X.env := by rfl) (hline : (apos.endLine == cpos.line) = true := by rfl) : PE X (.Call (.Attribute o name apos) [] [] cpos) (tBM0 K T r to) := by
  subst h; exact pe_bm0 pa slot hty hm ho hbase hline
theorem pe_bmK (h : X.K = K) (pa : PlainAttrs T) (slot : Slot T name id) (hty : typeOf (.builtin id) = pure (.type "method_descriptor")) (hm : MtR X id r) (ho : PE X o to) (ha : PA X (e :: es) t)
    (hbase : attributeBase o name X.env (eval o X.env) = eval o X.env := by rfl)
    (hfew : ((backTo cpos (starEach (e :: es) X.env)).all (fun x => !x.1) && (backToKw cpos (keywordEach [] X.env)).all (fun x => x.1.isSome)
      && decide ((e :: es).length + ([] : List Keyword).length + (if ([] : List Keyword).isEmpty then 0 else 1) < 30)) = true := by rfl)
    (hline : (apos.endLine == cpos.line) = true := by rfl) (hs : starEach (e :: es) X.env = (false, eval e X.env) :: starEach es X.env := by rfl) (hplain : (backTo cpos (starEach es X.env)).any (·.1) = false := by rfl) :
    PE X (.Call (.Attribute o name apos) (e :: es) [] cpos) (tBM K T r to t) := by
  subst h; exact pe_bm pa slot hty hm ho ha hbase hfew hline hs hplain
variable {tg l : Expr} {tl : TE}
theorem pi_listK (h : X.K = K) (hl : PE X l tl) : PI X tg l (iList K tl) := by subst h; exact pi_list hl
theorem pi_tupK (h : X.K = K) (hl : PE X l tl) : PI X tg l (iTup K tl) := by subst h; exact pi_tup hl
end
/-- behind a statement: what its ways have in common -/
theorem seq_by {t u : TS} {D : Ends} {σ : L2.St} {H : Hp} (J : L2.St → Hp → Prop) (h2 : ∀ σ1 H1, J σ1 H1 → u D σ1 H1) (h1 : (∀ σ1 H1, J σ1 H1 → u D σ1 H1) → t { D with nx := u D } σ H) : tSeq t u D σ H := h1 h2
theorem if_by {c : TT} {t1 t2 u : TS} {D : Ends} {σ : L2.St} {H : Hp} (J : L2.St → Hp → Prop) (h2 : ∀ σ1 H1, J σ1 H1 → u D σ1 H1) (h1 : (∀ σ1 H1, J σ1 H1 → u D σ1 H1) → tIfS c t1 t2 { D with nx := u D } σ H) : tSeq (tIfS c t1 t2) u D σ H := h1 h2
theorem asg_by {te : TE} {i : Nat} {u : TS} {D : Ends} {σ : L2.St} {H : Hp} (J : V → Hp → Prop) (h2 : ∀ v H1, J v H1 → u D (σ.set i (some v)) H1) (h1 : (∀ v H1, J v H1 → u D (σ.set i (some v)) H1) → te σ H (fun x H1 => gName i x σ H1 (u D))) : tSeq (tAsg te (gName i)) u D σ H := h1 h2
theorem name_by {i : Nat} {v : V} {σ : L2.St} {H : Hp} {Q : L2.St → Hp → Prop} (h : Q (σ.set i (some v)) H) : gName i v σ H Q := h
/-! ### heaps -/
theorem same_upd {H : Hp} {p : Addr} {o : HO} (h : H p = none) : Same H (upd H p o) := fun b x e => by
  rw [upd_ne (ne_of_none e h)]
  exact e
/-- an object that was not there ahead may change -/
theorem same_mut {H H' : Hp} {p : Addr} {o : HO} (e : Same H H') (h : H p = none) : Same H (upd H' p o) := fun b x q => by
  rw [upd_ne (ne_of_none q h)]
  exact e b x q
/-- all but what stands at b stays -/
def Mv (b : Addr) (H H' : Hp) : Prop := ∀ a o, a ≠ b → H a = some o → H' a = some o
theorem Mv.refl (b : Addr) (H : Hp) : Mv b H H := fun _ _ _ h => h
theorem Mv.trans {b : Addr} {H H1 H2 : Hp} (x : Mv b H H1) (y : Mv b H1 H2) : Mv b H H2 := fun a o n h => y a o n (x a o n h)
theorem Mv.of {b : Addr} {H H' : Hp} (s : Same H H') : Mv b H H' := fun a o _ h => s a o h
theorem Mv.upd {b : Addr} {H H' : Hp} {o : HO} (x : Mv b H H') : Mv b H (upd H' b o) := fun a u n h => by
  rw [upd_ne n]
  exact x a u n h
theorem Mv.none {b p : Addr} {H H' : Hp} (x : Mv b H H') (n : p ≠ b) (h : H' p = none) : H p = none := by
  cases q : H p with
  | none => rfl
  | some o =>
    rw [x p o n q] at h
    cases h
/-! ### the bag: b.1 the bag, b.2 its numbers -/
def bagL (s : Addr) (i r x c : Int) : List V := [.ref s, .int i, .int r, .int x, .int c]
def Bag (b : Addr × Addr) (H : Hp) : Prop := ∃ (ns : List Int) (i r x c : Int), H b.1 = some (.lst (bagL b.2 i r x c)) ∧ H b.2 = some (.lst (ns.map V.int)) ∧ b.2 ≠ b.1 ∧ 0 ≤ i ∧ 0 ≤ x ∧ x < 2147483648
theorem Bag.same {b : Addr × Addr} {H H' : Hp} (g : Bag b H) (s : Same H H') : Bag b H' := by
  obtain ⟨ns, i, r, x, c, h1, h2, h3, h4, h5, h6⟩ := g
  exact ⟨ns, i, r, x, c, s _ _ h1, s _ _ h2, h3, h4, h5, h6⟩
theorem Bag.ne {b : Addr × Addr} {p : Addr} {H : Hp} (g : Bag b H) (h : H p = none) : p ≠ b.1 := by
  obtain ⟨ns, i, r, x, c, h1, _⟩ := g
  exact fun z => by rw [z, h1] at h; cases h
theorem Bag.ne2 {b : Addr × Addr} {p : Addr} {H : Hp} (g : Bag b H) (h : H p = none) : p ≠ b.2 := by
  obtain ⟨ns, i, r, x, c, _, h1, _⟩ := g
  exact fun z => by rw [z, h1] at h; cases h
theorem Bag.upd {b : Addr × Addr} {p : Addr} {o : HO} {H : Hp} (g : Bag b H) (h1 : p ≠ b.1) (h2 : p ≠ b.2) : Bag b (L2.upd H p o) := by
  obtain ⟨ns, i, r, x, c, e1, e2, h3⟩ := g
  exact ⟨ns, i, r, x, c, by rw [upd_ne h1.symm]; exact e1, by rw [upd_ne h2.symm]; exact e2, h3⟩
/-- a draw: its bag, its bound -/
def spPick : Sp := fun vs H Q _ => ∃ (b : Addr × Addr) (top : Int), vs = [.ref b.1, .int top] ∧ Bag b H ∧ 0 < top ∧ top < 1073741824 ∧ ∀ (H' : Hp) (d : Int), Mv b.1 H H' → Bag b H' → 0 ≤ d → d < top → Q (.int d) H'
/-- the bag of a script -/
def spBag (K : PySem.W.Frag) : Sp := fun vs H Q _ => ∃ (a : Addr) (ns : List Int), vs = [.ref a] ∧ SqL K H a (ns.map V.int) ∧ ∀ (H' : Hp) (b : Addr × Addr), Same H H' → H b.1 = none → Bag b H' → Q (.ref b.1) H'
/-- one of the list's things -/
def spOf (K : PySem.W.Frag) : Sp := fun vs H Q _ => ∃ (b : Addr × Addr) (l : Addr) (xs : List V), vs = [.ref b.1, .ref l] ∧ Bag b H ∧ l ≠ b.1 ∧ H l = some (.lst xs) ∧ 0 < xs.length ∧ xs.length < 1000 ∧ ∀ (H' : Hp) (v : V), Mv b.1 H H' → Bag b H' → v ∈ xs → Q v H'
section
variable {K : PySem.W.Frag}
def tyN : PyData → String
  | .none => "NoneType"
  | .bool _ => "bool"
  | .int _ => "int"
  | .str _ => "str"
  | .list _ => "list"
  | .tuple _ => "tuple"
  | .dict _ => "dict"
theorem ty_dp {H : Hp} {x : V} {d : PyData} (h : Dp K H x d) : TyX K H x (.type (tyN d)) := by
  cases h with
  | non => exact .base .non
  | bl b => exact .base (.bl b)
  | int i => exact .base (.int i)
  | str x => exact .base (.str x)
  | lst hs _ =>
    rcases hs with (h | ⟨o, h⟩) | ⟨o, its, n, h1, h2, _⟩
    · exact .base (.lst h)
    · exact .base (.frz h)
    · exact .kList h1 h2
  | tup hs _ =>
    rcases hs with (h | ⟨o, h⟩) | ⟨o, its, n, h1, h2, _⟩
    · exact .base (.tup h)
    · exact .fTuple h
    · exact .kTuple h1 h2
theorem same_t {H H' : Hp} {a : Addr} {xs : List V} (e : Same H H') (h : SqT K H a xs) : SqT K H' a xs := by
  rcases h with (h | ⟨o, h⟩) | h
  · exact .inl (.inl (e _ _ h))
  · exact .inl (.inr ⟨o, e _ _ h⟩)
  · exact .inr h
mutual
theorem dp_same {H H' : Hp} (e : Same H H') : ∀ {d : PyData} {x : V}, Dp K H x d → Dp K H' x d
  | _, _, .non => .non
  | _, _, .bl b => .bl b
  | _, _, .int i => .int i
  | _, _, .str s => .str s
  | _, _, .lst hs ha => .lst (e.seq hs) (dpa_same e ha)
  | _, _, .tup hs ha => .tup (same_t e hs) (dpa_same e ha)
theorem dpa_same {H H' : Hp} (e : Same H H') : ∀ {ds : List PyData} {xs : List V}, DpAll K H xs ds → DpAll K H' xs ds
  | _, _, .nil => .nil
  | _, _, .cons h t => .cons (dp_same e h) (dpa_same e t)
end
theorem dpa_len {H : Hp} : ∀ {xs : List V} {ds : List PyData}, DpAll K H xs ds → xs.length = ds.length
  | _, _, .nil => rfl
  | _, _, .cons _ t => congrArg (· + 1) (dpa_len t)
theorem dpa_get {H : Hp} : ∀ {xs : List V} {ds : List PyData} {i : Nat} {d : PyData}, DpAll K H xs ds → ds[i]? = some d → ∃ x, xs[i]? = some x ∧ Dp K H x d
  | _, _, _, _, .nil, e => by simp at e
  | _, _, 0, _, .cons h _, e => by simp at e; subst e; exact ⟨_, rfl, h⟩
  | _, _, i + 1, d, .cons _ t, e => by
    obtain ⟨x, h1, h2⟩ := dpa_get (i := i) (d := d) t (by simpa using e)
    exact ⟨x, by simpa using h1, h2⟩
/-- data of at most so many levels -/
def Dn : Nat → PyData → Prop
  | 0, _ => False
  | n + 1, d => (∃ b, d = .bool b) ∨ (∃ i, d = .int i) ∨ (∃ s, d = .str s) ∨ d = .none ∨ ∃ ds, (d = .list ds ∨ d = .tuple ds) ∧ ds.length ≤ 100000 ∧ ∀ e ∈ ds, Dn n e
def spSame (K : PySem.W.Frag) (n : Nat) : Sp := fun vs H Q _ => ∃ (x y : V) (d : PyData), vs = [x, y] ∧ Dp K H x d ∧ Dp K H y d ∧ Dn n d ∧ SeqAt.shaped d = true ∧ ∀ H', Same H H' → Q (.bl true) H'
theorem tYes_by {σ : L2.St} {H : Hp} {Q : Bool → Hp → Prop} (h : Q true H) : tYes σ H Q := h
theorem canLay_mem : ∀ {ds : List PyData} {e : PyData}, e ∈ ds → PyData.canLayAll0 ds = true → PyData.canLay0 e = true
  | d :: ds, e, hm, h => by
    have h : (PyData.canLay0 d && PyData.canLayAll0 ds) = true := h
    rw [Bool.and_eq_true] at h
    rcases List.mem_cons.mp hm with rfl | hm
    · exact h.1
    · exact canLay_mem hm h.2
theorem depth_mem : ∀ {ds : List PyData} {e : PyData}, e ∈ ds → PyData.depth e ≤ PyData.depthAll ds
  | d :: ds, e, hm => by
    show _ ≤ max (PyData.depth d) (PyData.depthAll ds)
    rcases List.mem_cons.mp hm with rfl | hm
    · exact Nat.le_max_left _ _
    · exact Nat.le_trans (depth_mem hm) (Nat.le_max_right _ _)
theorem shaped_mem {ds : List PyData} {e : PyData} (hm : e ∈ ds) (h : SeqAt.shaped (.list ds) = true ∨ SeqAt.shaped (.tuple ds) = true) : SeqAt.shaped e = true := by
  have k : PyData.canLayAll0 ds = true ∧ PyData.depthAll ds + 1 ≤ 64 := by
    rcases h with h | h
    · exact ⟨SeqAt.canLay_of_shaped h, SeqAt.depth_of_shaped h⟩
    · exact ⟨SeqAt.canLay_of_shaped h, SeqAt.depth_of_shaped h⟩
  unfold SeqAt.shaped
  rw [Bool.and_eq_true]
  exact ⟨canLay_mem hm k.1, decide_eq_true (by have := depth_mem hm; omega)⟩
theorem ifT {A B : Prop} {b : Bool} (e : b = true) (h : A) : if b = true then A else B := by rw [if_pos e]; exact h
theorem ifF {A B : Prop} {b : Bool} (e : b = false) (h : B) : if b = true then A else B := by rw [e]; exact iteF h
end
end WB
namespace WB
open PySem PySem.Spec PyProof.Rows L2
section
variable {K : PySem.W.Frag}
theorem for_enumK {a : Addr} {xs : List V} {g : TG} {tb : TS} {D : Ends} {σ : L2.St} {H : Hp} (Pv : Nat → L2.St → Hp → Prop) (h0 : Pv 0 σ H) (hl : ∀ i σ H, i ≤ xs.length → Pv i σ H → SqL K H a xs)
    (hs : ∀ i x T σ H, xs[i]? = some x → Pv i σ H → H T = none → g (.ref T) σ (upd H T (.tup [.int (i : Nat), x])) fun σ2 H2 => tb { D with nx := Pv (i + 1), ct := Pv (i + 1), bk := D.nx } σ2 H2) (hd : ∀ σ H, Pv xs.length σ H → D.nx σ H) :
    ∃ W : Nat → Nat → L2.St → Hp → Prop, (∃ m, W 0 m σ H) ∧ ∀ i m σ H, W i m σ H →
      ((Ite K a).stop i H ∧ D.nx σ H) ∨ ((Ite K a).go i H ∧ ∃ N : L2.St → Hp → Prop, (∀ σ' H', N σ' H' → ∃ m', m' < m ∧ W (i + 1) m' σ' H') ∧ ∀ x H', (Ite K a).yld i H x H' → g x σ H' fun σ2 H2 => tb { D with nx := N, ct := N, bk := D.nx } σ2 H2) := by
  refine ⟨fun i m σ H => m = xs.length - i ∧ i ≤ xs.length ∧ Pv i σ H, ⟨xs.length, by simp, Nat.zero_le _, h0⟩, ?_⟩
  rintro i m σ H ⟨rfl, hi, p⟩
  have q := hl i σ H hi p
  by_cases hlt : i < xs.length
  · refine .inr ⟨⟨xs, xs[i], q, by simp [hlt]⟩, Pv (i + 1), fun σ' H' p' => ⟨xs.length - (i + 1), by omega, rfl, hlt, p'⟩, fun x H' y => ?_⟩
    obtain ⟨T, z, rfl, nT, rfl, y⟩ := y
    exact hs i z T σ H (y xs q) p nT
  · have e : i = xs.length := by omega
    subst e
    exact .inl ⟨⟨xs, q, Nat.le_refl _⟩, hd σ H p⟩
end
/-! ### bits, numbers in bits, seals: the mathematics -/
def Bits (ns : List Int) : Prop := ∀ z ∈ ns, z = 0 ∨ z = 1
/-- a number in so many bits, the one of greatest worth first -/
def wr : Nat → Int → List Int
  | 0, _ => []
  | i + 1, n => ((n / 2 ^ i) % 2) :: wr i n
theorem wr_len : ∀ (i : Nat) (n : Int), (wr i n).length = i
  | 0, _ => rfl
  | i + 1, n => congrArg (· + 1) (wr_len i n)
theorem wr_bits : ∀ (i : Nat) (n : Int), Bits (wr i n)
  | 0, _ => fun z h => nomatch h
  | i + 1, n => fun z h => by
    rcases List.mem_cons.mp h with rfl | h
    · omega
    · exact wr_bits i n z h
theorem half (n : Int) (i : Nat) : n / 2 ^ i / 2 = n / 2 ^ (i + 1) := by
  rw [Int.pow_succ, Int.ediv_ediv_of_nonneg (by exact Int.pow_nonneg (by decide))]
/-- the register: one more bit -/
def stepR (c : Nat) (b : Int) : Nat := if ((c / 32768 : Nat) : Int) = b then c * 2 % 65536 else (c * 2 % 65536) ^^^ 4129
theorem stepR_lt (c : Nat) (b : Int) : stepR c b < 65536 := by
  unfold stepR
  have h : c * 2 % 65536 < 65536 := Nat.mod_lt _ (by decide)
  split
  · exact h
  · exact Nat.xor_lt_two_pow (n := 16) h (by decide)
def regs (bs : List Int) : Nat := bs.foldl stepR 65535
theorem regs_lt (bs : List Int) : regs bs < 65536 := by
  have : ∀ (l : List Int) (c : Nat), c < 65536 → l.foldl stepR c < 65536 := by
    intro l
    induction l with
    | nil => exact fun c h => h
    | cons b r ih => exact fun c _ => ih _ (stepR_lt c b)
  exact this bs 65535 (by decide)
def sealL (bs : List Int) : List Int := wr 16 (regs bs : Nat)
theorem take_more {α : Type} {l : List α} {i : Nat} {x : α} (h : l[i]? = some x) : l.take (i + 1) = l.take i ++ [x] := by
  rw [List.take_add_one, h]
  rfl
theorem regs_more {bs : List Int} {i : Nat} {b : Int} (h : bs[i]? = some b) : regs (bs.take (i + 1)) = stepR (regs (bs.take i)) b := by
  unfold regs
  rw [take_more h, List.foldl_append]
  rfl
theorem wr_at (c : Nat) (i : Nat) : ((c : Int) / 2 ^ i) % 2 = if c.testBit i then 1 else 0 := by
  have e : ((c : Int) / 2 ^ i) % 2 = ((c / 2 ^ i % 2 : Nat) : Int) := by
    rw [Int.natCast_emod, Int.natCast_ediv, Int.natCast_pow]
    rfl
  rw [e, Nat.testBit_eq_decide_div_mod_eq]
  have h : c / 2 ^ i % 2 < 2 := Nat.mod_lt _ (by decide)
  by_cases h1 : c / 2 ^ i % 2 = 1
  · rw [h1]; rfl
  · have h0 : c / 2 ^ i % 2 = 0 := by omega
    rw [h0]; rfl
def holdsB (ns : List Int) : Bool := decide (16 ≤ ns.length) && decide (sealL (ns.take (ns.length - 16)) = ns.drop (ns.length - 16))
theorem wr_shift (c : Nat) : wr 16 ((c * 2 % 65536 : Nat) : Int) = (wr 16 (c : Int)).drop 1 ++ [0] := by
  have e : ((c * 2 % 65536 : Nat) : Int) = (c : Int) * 2 % 65536 := by rw [Int.natCast_emod, Int.natCast_mul]; rfl
  rw [e]
  generalize (c : Int) = z
  simp only [wr, List.drop, List.cons_append, List.nil_append, List.cons.injEq, and_true]
  refine ⟨?_, ?_, ?_, ?_, ?_, ?_, ?_, ?_, ?_, ?_, ?_, ?_, ?_, ?_, ?_, ?_⟩ <;> omega
def fl (M : List Int) (k : Nat) : List Int := M.set k (1 - M.getD k 0)
theorem wr_flip (a : Nat) : wr 16 ((a ^^^ 4129 : Nat) : Int) = fl (fl (fl (wr 16 (a : Int)) 3) 10) 15 := by
  simp only [wr, wr_at, Nat.testBit_xor, fl]
  simp only [List.set, List.getD, List.getElem?_cons_succ, List.getElem?_cons_zero, Option.getD]
  have h : ∀ i : Nat, (if ((a.testBit i) ^^ true) = true then (1 : Int) else 0) = 1 - (if a.testBit i = true then 1 else 0) := by
    intro i
    cases a.testBit i <;> rfl
  have t0 : (4129 : Nat).testBit 0 = true := by decide
  have t5 : (4129 : Nat).testBit 5 = true := by decide
  have t12 : (4129 : Nat).testBit 12 = true := by decide
  have n1 : (4129 : Nat).testBit 1 = false := by decide
  have n2 : (4129 : Nat).testBit 2 = false := by decide
  have n3 : (4129 : Nat).testBit 3 = false := by decide
  have n4 : (4129 : Nat).testBit 4 = false := by decide
  have n6 : (4129 : Nat).testBit 6 = false := by decide
  have n7 : (4129 : Nat).testBit 7 = false := by decide
  have n8 : (4129 : Nat).testBit 8 = false := by decide
  have n9 : (4129 : Nat).testBit 9 = false := by decide
  have n10 : (4129 : Nat).testBit 10 = false := by decide
  have n11 : (4129 : Nat).testBit 11 = false := by decide
  have n13 : (4129 : Nat).testBit 13 = false := by decide
  have n14 : (4129 : Nat).testBit 14 = false := by decide
  have n15 : (4129 : Nat).testBit 15 = false := by decide
  simp only [t0, t5, t12, n1, n2, n3, n4, n6, n7, n8, n9, n10, n11, n13, n14, n15, Bool.xor_false, h]
/-- data of ints -/
def dI (ns : List Int) : PyData := .list (ns.map PyData.int)
theorem dpa_ints {K : PySem.W.Frag} {H : Hp} : ∀ ns : List Int, DpAll K H (ns.map V.int) (ns.map PyData.int)
  | [] => .nil
  | n :: r => .cons (.int n) (dpa_ints r)
theorem dp_ints {K : PySem.W.Frag} {H : Hp} {a : Addr} {ns : List Int} (h : SqL K H a (ns.map V.int)) : Dp K H (.ref a) (dI ns) := .lst h (dpa_ints ns)
theorem depth_ints : ∀ ns : List Int, PyData.depthAll (ns.map PyData.int) = 0
  | [] => rfl
  | n :: r => by
    show max 0 (PyData.depthAll (r.map PyData.int)) = 0
    rw [depth_ints r]
    rfl
theorem canLay_ints : ∀ ns : List Int, PyData.canLayAll0 (ns.map PyData.int) = true
  | [] => rfl
  | n :: r => by
    show (true && PyData.canLayAll0 (r.map PyData.int)) = true
    rw [canLay_ints r]
    rfl
theorem shaped_ints (ns : List Int) : SeqAt.shaped (dI ns) = true := by
  unfold SeqAt.shaped
  rw [Bool.and_eq_true]
  refine ⟨canLay_ints ns, decide_eq_true ?_⟩
  show PyData.depthAll (ns.map PyData.int) + 1 ≤ 64
  rw [depth_ints]
  decide
theorem eqv_ints (ns ms : List Int) : PyData.eqv (dI ns) (dI ms) = decide (ns = ms) := by
  have : ∀ (ns ms : List Int), PyData.eqvAll (ns.map PyData.int) (ms.map PyData.int) = decide (ns = ms) := by
    intro ns
    induction ns with
    | nil =>
      intro ms
      cases ms with
      | nil => rfl
      | cons m r => rfl
    | cons n r ih =>
      intro ms
      cases ms with
      | nil => rfl
      | cons m t =>
        show (PyData.eqv (.int n) (.int m) && PyData.eqvAll (r.map PyData.int) (t.map PyData.int)) = _
        rw [ih t]
        show ((n == m) && decide (r = t)) = _
        rw [show (n == m) = decide (n = m) from by rw [Bool.beq_eq_decide_eq], ← Bool.decide_and]
        exact decide_eq_decide.mpr ⟨fun h => by rw [h.1, h.2], fun h => List.cons.inj h⟩
  exact this ns ms
/-! ### what a law knows of the heap: the bag at b, and these -/
structure SH (b : Addr × Addr) (H : Hp) (L : List (Addr × HO)) : Prop where
  bag : Bag b H
  nb : ∀ p ∈ L, p.1 ≠ b.1 ∧ p.1 ≠ b.2
  kn : ∀ p ∈ L, H p.1 = some p.2
section
variable {b : Addr × Addr} {p : Addr} {H H' : Hp} {L L' : List (Addr × HO)} {o o' : HO}
theorem SH.same (h : SH b H L) (s : Same H H') : SH b H' L := ⟨h.bag.same s, h.nb, fun q hq => s _ _ (h.kn q hq)⟩
theorem SH.mv (h : SH b H L) (m : Mv b.1 H H') (g : Bag b H') : SH b H' L := ⟨g, h.nb, fun q hq => m _ _ (h.nb q hq).1 (h.kn q hq)⟩
theorem SH.add (h : SH b H L) (n : p ≠ b.1) (n2 : p ≠ b.2) (e : H p = some o) : SH b H ((p, o) :: L) :=
  ⟨h.bag, fun q hq => (List.mem_cons.mp hq).elim (fun z => by rw [z]; exact ⟨n, n2⟩) (h.nb q), fun q hq => (List.mem_cons.mp hq).elim (fun z => by rw [z]; exact e) (h.kn q)⟩
theorem SH.new (h : SH b H L) (n : H p = none) : SH b (upd H p o) ((p, o) :: L) := (h.same (same_upd n)).add (h.bag.ne n) (h.bag.ne2 n) upd_same
theorem SH.newS (h : SH b H L) (s : Same H H') (n : H p = none) (e : H' p = some o) : SH b H' ((p, o) :: L) := (h.same s).add (h.bag.ne n) (h.bag.ne2 n) e
theorem SH.newM (h : SH b H L) (m : Mv b.1 H H') (g : Bag b H') (n : H p = none) (e : H' p = some o) : SH b H' ((p, o) :: L) := (h.mv m g).add (h.bag.ne n) (h.bag.ne2 n) e
theorem SH.sub (h : SH b H L) (hs : ∀ q ∈ L', q ∈ L) : SH b H L' := ⟨h.bag, fun q hq => h.nb q (hs q hq), fun q hq => h.kn q (hs q hq)⟩
theorem SH.get (h : SH b H L) (hm : (p, o) ∈ L) : H p = some o := h.kn _ hm
theorem SH.ne (h : SH b H L) (hm : (p, o) ∈ L) : p ≠ b.1 := (h.nb _ hm).1
/-- the first of them is written; the others stand elsewhere -/
theorem SH.put (h : SH b H ((p, o) :: L)) (hd : ∀ q ∈ L, q.1 ≠ p) : SH b (upd H p o') ((p, o') :: L) :=
  ⟨h.bag.upd (h.nb _ (.head _)).1 (h.nb _ (.head _)).2, fun q hq => (List.mem_cons.mp hq).elim (fun z => by rw [z]; exact h.nb (p, o) (.head L)) (fun hq => h.nb q (.tail _ hq)),
    fun q hq => (List.mem_cons.mp hq).elim (fun z => by rw [z]; exact upd_same) (fun hq => by rw [upd_ne (hd q hq)]; exact h.kn q (.tail _ hq))⟩
theorem SH.apart (h : SH b H L) (n : H p = none) : ∀ q ∈ L, q.1 ≠ p := fun q hq => ne_of_none (h.kn q hq) n
theorem SH.nil (g : Bag b H) : SH b H [] := ⟨g, (fun _ h => absurd h List.not_mem_nil), (fun _ h => absurd h List.not_mem_nil)⟩
end
theorem bits_nil : Bits [] := fun _ h => nomatch h
theorem bits_app {a c : List Int} (h : Bits a) (h' : Bits c) : Bits (a ++ c) := fun z hz => (List.mem_append.mp hz).elim (h z) (h' z)
theorem bits_one {z : Int} (h : z = 0 ∨ z = 1) : Bits [z] := fun y hy => by rw [List.mem_singleton.mp hy]; exact h
theorem bits_take {a : List Int} (h : Bits a) (n : Nat) : Bits (a.take n) := fun z hz => h z (List.mem_of_mem_take hz)
theorem bits_drop {a : List Int} (h : Bits a) (n : Nat) : Bits (a.drop n) := fun z hz => h z (List.mem_of_mem_drop hz)
theorem seal_bits (ns : List Int) : Bits (sealL ns) := wr_bits _ _
theorem seal_len (ns : List Int) : (sealL ns).length = 16 := wr_len _ _
theorem cut_to_n (xs : List V) (n : Nat) : cutV xs none (some (n : Int)) = xs.take n := by
  unfold cutV
  rw [HT.sIx_none, HT.sIx_nat, List.drop_zero, Nat.sub_zero]
  by_cases h : n ≤ xs.length
  · rw [Nat.min_eq_left h]
  · rw [Nat.min_eq_right (by omega), List.take_of_length_le (Nat.le_refl _), List.take_of_length_le (by omega)]
theorem cut_from_n (xs : List V) (n : Nat) : cutV xs (some (n : Int)) none = xs.drop n := by
  unfold cutV
  rw [HT.sIx_none, HT.sIx_nat]
  by_cases h : n ≤ xs.length
  · rw [Nat.min_eq_left h]
    exact List.take_of_length_le (by simp)
  · rw [Nat.min_eq_right (by omega), List.drop_of_length_le (Nat.le_refl _), List.drop_of_length_le (by omega)]
    exact List.take_nil
theorem sIx_back (l d n : Nat) (h : 0 < n) : HT.sIx l d (some (-(n : Int))) = l - n := by
  show (if -(n : Int) < 0 then (-(n : Int) + (l : Int)).toNat else min (-(n : Int)).toNat l) = l - n
  rw [if_pos (by omega)]
  omega
theorem cut_to_b (xs : List V) (n : Nat) (h : 0 < n) : cutV xs none (some (-(n : Int))) = xs.take (xs.length - n) := by
  unfold cutV
  rw [HT.sIx_none, sIx_back _ _ n h, List.drop_zero, Nat.sub_zero]
theorem cut_from_b (xs : List V) (n : Nat) (h : 0 < n) : cutV xs (some (-(n : Int))) none = xs.drop (xs.length - n) := by
  unfold cutV
  rw [HT.sIx_none, sIx_back _ _ n h]
  exact List.take_of_length_le (by simp)
theorem sz4 {n : Nat} (h : n ≤ 100000) : n ≤ sizeLine := Nat.le_trans h (by decide)
theorem sz4l {n : Nat} (h : n < 100000) : n < sizeLine := Nat.lt_of_lt_of_le h (by decide)
theorem holds_sealed {ns : List Int} : holdsB (ns ++ sealL ns) = true := by
  unfold holdsB
  have l : (ns ++ sealL ns).length = ns.length + 16 := by rw [List.length_append, seal_len]
  rw [l, Nat.add_sub_cancel, List.take_left, List.drop_left]
  simp
theorem holds_short {ns : List Int} (h : ns.length < 16) : holdsB ns = false := by
  unfold holdsB
  rw [decide_eq_false (by omega), Bool.false_and]
theorem inV_ints (z : Int) : ∀ ks : List Int, inV (.int z) (ks.map V.int) = decide (z ∈ ks)
  | [] => rfl
  | k :: r => by
    show ((k == z) || inV (.int z) (r.map V.int)) = _
    rw [inV_ints z r]
    by_cases h : z = k
    · subst h
      simp
    · have h2 : (k == z) = false := by simpa using fun e => h e.symm
      rw [h2, Bool.false_or]
      exact decide_eq_decide.mpr ⟨fun hm => .tail _ hm, fun hm => (List.mem_cons.mp hm).elim (fun e => absurd e h) (fun e => e)⟩
def isB (b : Int) : Prop := b = 0 ∨ b = 1
theorem bits_cons {b : Int} {r : List Int} (h : Bits (b :: r)) : isB b ∧ Bits r := ⟨h b (.head _), fun z hz => h z (.tail _ hz)⟩
theorem getI {ns : List Int} {i : Nat} {y : V} (h : (ns.map V.int)[i]? = some y) : ∃ z, ns[i]? = some z ∧ y = V.int z := by
  rw [List.getElem?_map] at h
  cases e : ns[i]? with
  | none => rw [e] at h; cases h
  | some z => rw [e] at h; exact ⟨z, rfl, (Option.some.inj h).symm⟩
end WB
namespace WB
open PySem PySem.Spec PyProof.Rows L2
/-! ### a class's own function, called by the class: C.m(e, ..) -/
structure ClsFn (K : PySem.W.Frag) (mg : Str → Option Value) (x m : Str) (C f : Addr) : Prop where
  gC : mg x = some (.ref C)
  sg : PySem.W.specialIn K (.ref C) "__getattribute__" = some (some (.builtin "type.__getattribute__"))
  ty : PySem.W.typeIn K (.ref C) = some (.type "type")
  rd : PySem.W.readsIn K C (.type "type") = true
  fc : PySem.W.findCls K (.ref C) (.type "type") m = some (.val (.ref f))
  hd : PySem.W.handedIn (.ref f) = true
  kp : PySem.W.keepIn K (.ref f) = true
section
variable {X : Cx} {CX : CXT} {k : Nat} {f C : Addr} {fd : FuncData} {ps : List Str} {sp : Sp} {E : XK} {x m : Str} {p1 p2 pos : Pos} {e : Expr} {es : List Expr} {t : TA}
theorem pe_clsfn {pl : Sem Bool} (T : ClsFn X.K X.mg x m C f) (F : FnOk X.prog X.w X.K X.mg X.base CX k f fd ps sp) (hr : Room k X.A) (hb : Binds X.K fd ps []) (hx : Passes CX X E) (hg : Gl X x) (ha : PA X (e :: es) t)
    (hc : eval (.Call (.Attribute (.Name x p1) m p2) (e :: es) [] pos) X.env = (do
      let ov ← eval (.Name x p1) X.env
      standAt p2.atName
      let (f, first) ← holding [ov] (getMethod ov m pl)
      callWith pos f first (backTo pos (starEach (e :: es) X.env)) (backToKw pos (keywordEach [] X.env))) := by rfl)
    (hdb : (x == ("__debug__" : Str)) = false := by decide) (he : starEach (e :: es) X.env = (false, eval e X.env) :: starEach es X.env := by rfl) (hpl : (backTo pos (starEach es X.env)).any (·.1) = false := by rfl) :
    PE X (.Call (.Attribute (.Name x p1) m p2) (e :: es) [] pos) (tCall sp [] E t) := by
  refine ⟨fun pins s σ H Q I h => ?_⟩
  refine PySem.W.methodCall_KW (ld_glob I hg T.gC ?_ hdb) hc
  obtain ⟨mm, fr⟩ := I.fr
  refine PySem.W.method_of_cls fr I.ok.mod.kin T.sg (PySem.W.cls_val fr I.ok.mod.kin T.ty T.rd T.fc T.hd ?_)
  show wpAny _ _ (callWith pos (Value.ref f) [] (backTo pos (starEach (e :: es) X.env)) []) _ _ _
  refine PySem.W.callWith_K (h₀ := X.base) I.ok.mod.kin T.kp (thn (ha.run pos pins _ σ H _ (I.tok _) h) fun us s1 ⟨vs, H1, I1, r, q⟩ => ⟨I1.kIn, ?_⟩) he hpl
  exact run_fn F hr hb .nil hx I1 r q
end
/-! ### own exceptions -/
/-- LineError.__init__ -/
def spLE (K : PySem.W.Frag) : Sp := fun vs H Q _ => ∃ (a C : Addr) (w t : V), vs = [.ref a, w, t] ∧ OexC K C ∧ PySem.W.findIn K (.ref C) "word" = some none ∧ H a = some (exo a C none) ∧
  ∀ d, H d = none → d ≠ a → Q .non (upd (upd H d (exd d [(("word" : Str), w)])) a (exo a C (some d)))
/-- a class below it, its name, its field -/
def spIni (K : PySem.W.Frag) (C : Addr) (nm fld : Str) : Sp := fun vs H Q _ => ∃ (a : Addr) (i : Int), vs = [.ref a, .int i] ∧ i.natAbs.log2 < 1000 ∧ H a = some (exo a C none) ∧
  ∀ d, H d = none → d ≠ a → Q .non (upd (upd (upd H d (exd d [(("word" : Str), .str nm)])) a (exo a C (some d))) d (exd d [(fld, .int i), (("word" : Str), .str nm)]))
def XcOk (P : Program) (w : World) (K : PySem.W.Frag) (mg : Str → Option Value) (base : Heap) (k : Nat) (nm : Str) (C : Addr) (sp : Sp) : Prop :=
  ∃ (fI : Addr) (fd : FuncData) (ps : List Str), OexC K C ∧ PySem.W.findIn K (.ref C) "__init__" = some (some (.ref fI)) ∧ PySem.W.typeIn K (.ref fI) = some (.type "function") ∧ FnOk P w K mg base CX0 k fI fd ps sp ∧ Binds K fd ps [] ∧ mg nm = some (.ref C)
theorem XcOk.mono {P : Program} {w : World} {K : PySem.W.Frag} {mg : Str → Option Value} {base : Heap} {j k : Nat} {nm : Str} {C : Addr} {sp : Sp} (x : XcOk P w K mg base j nm C sp) (h : j ≤ k) : XcOk P w K mg base k nm C sp := by
  obtain ⟨fI, fd, ps, a, b, c, d, e⟩ := x
  exact ⟨fI, fd, ps, a, b, c, d.mono h, e⟩
section
variable {X : Cx} {k : Nat} {nm : Str} {C : Addr} {sp : Sp} {e : Expr} {es : List Expr} {ta : TA} {p pos : Pos}
theorem pmk_c (x : XcOk X.prog X.w X.K X.mg X.base k nm C sp) (hr : Room (k + 1) X.A) (hg : Gl X nm) (ha : PA X (e :: es) ta) (hdb : (nm == ("__debug__" : Str)) = false := by decide)
    (he : starEach (e :: es) X.env = (false, eval e X.env) :: starEach es X.env := by rfl) (hpl : (backTo pos (starEach es X.env)).any (·.1) = false := by rfl) : PMk X (.Call (.Name nm p) (e :: es) [] pos) (tMkO C sp [] ta) := by
  obtain ⟨fI, fd, ps, a, b, c, d, e1, g⟩ := x
  exact pmk_oex a b c d hr e1 .nil pass0 hg g ha hdb he hpl
end
theorem mk_inner {K : PySem.W.Frag} {C : Addr} {nm fld : Str} {i : Int} {H1 : Hp} {Q : XK} (hi : i.natAbs.log2 < 1000)
    (q : ∀ H' d, Same H1 H' → H1 d = none → H' d = some (.xd [(fld, .int i), (("word" : Str), .str nm)]) → Q (.ref C) (some d) H') :
    ([V.int i] : List V).length ≤ 1000 ∧ ∀ a, H1 a = none → spIni K C nm fld (.ref a :: ([V.int i] ++ [])) (upd H1 a (exo a C none))
      (fun v H2 => v = .non ∧ ∃ (d : Addr) (fs : List (Str × V)), H2 a = some (exo a C (some d)) ∧ H2 d = some (exd d fs) ∧ H1 d = none ∧ Q (.ref C) (some d) (upd (del H2 a) d (.xd fs))) (fun _ _ _ => False) := by
  refine ⟨by show 1 ≤ 1000; decide, fun a na => ⟨a, i, rfl, hi, upd_same, fun d nd da => ⟨rfl, d, [(fld, .int i), (("word" : Str), .str nm)], ?_, upd_same, ?_, ?_⟩⟩⟩
  · rw [upd_ne da.symm, upd_same]
  · rw [upd_ne da] at nd
    exact nd
  · rw [upd_ne da] at nd
    refine q _ d (fun b o h => ?_) nd upd_same
    have hb : b ≠ d := ne_of_none h nd
    have hba : b ≠ a := ne_of_none h na
    rw [upd_ne hb, del_ne hba, upd_ne hb, upd_ne hba, upd_ne hb, upd_ne hba]
    exact h
/-! ### defs that may let an exception out -/
def CalX (P : Program) (w : World) (K : PySem.W.Frag) (mg : Str → Option Value) (base : Heap) (k : Nat) (nm : Str) (ps : List Str) (sp : Sp) : Prop :=
  ∃ (f : Addr) (fd : FuncData), FnOk P w K mg base (L2.CX P w) k f fd ps sp ∧ mg nm = some (.ref f) ∧ PySem.W.keepIn K (.ref f) = true ∧ Binds K fd ps []
theorem CalX.mono {P : Program} {w : World} {K : PySem.W.Frag} {mg : Str → Option Value} {base : Heap} {j k : Nat} {nm : Str} {ps : List Str} {sp : Sp} (c : CalX P w K mg base j nm ps sp) (h : j ≤ k) : CalX P w K mg base k nm ps sp := by
  obtain ⟨f, fd, a, b, d, e⟩ := c
  exact ⟨f, fd, a.mono h, b, d, e⟩
section
variable {X : Cx} {k : Nat} {nm : Str} {ps : List Str} {sp : Sp} {E : XK} {e : Expr} {es : List Expr} {t : TA} {p pos : Pos}
/-- where it lets nothing out -/
theorem pe_callF (c : CalX X.prog X.w X.K X.mg X.base k nm ps sp) (hr : Room k X.A) (hg : Gl X nm) (ha : PA X (e :: es) t) (hdb : (nm == ("__debug__" : Str)) = false := by decide)
    (he : starEach (e :: es) X.env = (false, eval e X.env) :: starEach es X.env := by rfl) (hpl : (backTo pos (starEach es X.env)).any (·.1) = false := by rfl) :
    PE X (.Call (.Name nm p) (e :: es) [] pos) (tCall sp [] E0 t) := by
  obtain ⟨f, fd, a, b, d, g⟩ := c
  exact pe_call a hr hg b d g .nil passL ha hdb he hpl
/-- where what it lets out is taken -/
theorem pe_callP (c : CalX X.prog X.w X.K X.mg X.base k nm ps sp) (hr : Room k X.A) (hx : Passes (L2.CX X.prog X.w) X E) (hg : Gl X nm) (ha : PA X (e :: es) t) (hdb : (nm == ("__debug__" : Str)) = false := by decide)
    (he : starEach (e :: es) X.env = (false, eval e X.env) :: starEach es X.env := by rfl) (hpl : (backTo pos (starEach es X.env)).any (·.1) = false := by rfl) :
    PE X (.Call (.Name nm p) (e :: es) [] pos) (tCall sp [] E t) := by
  obtain ⟨f, fd, a, b, d, g⟩ := c
  exact pe_call a hr hg b d g .nil hx ha hdb he hpl
end
theorem txt_fits {z : Str} {i : Int} (hz : z.length ≤ 1000) (hi : i.natAbs.log2 < 1000) : (z ++ Str.ofString (toString i)).length ≤ sizeLine := by
  have e := PySem.int_text_length_le (k := 1000) (a := i) (by decide) hi
  rw [PySem.Str.length_append, PySem.ofString_length, PySem.sizeLine_eq]
  omega
/-! ### several clauses, each with the name n (slot i) -/
def asEnds (i : Nat) (D : Ends) : Ends := ⟨fun σ' H' => D.nx (σ'.set i none) H', D.rt, fun σ' H' => D.bk (σ'.set i none) H', fun σ' H' => D.ct (σ'.set i none) H'⟩
def wManyA (K : PySem.W.Frag) (i : Nat) (Wo : WX) (D : Ends) : List (Value × (Addr → Value → Option Addr → TS)) → WX
  | [] => Wo
  | (c, ts) :: r => fun cls d σ H => ∃ b, PySem.W.exmOne K cls c = some b ∧ (b = true → ∀ a, H a = none → ts a cls d (asEnds i D) (σ.set i (some (.ref a))) H) ∧ (b = false → wManyA K i Wo D r cls d σ H)
inductive HdsA (X : Cx) (n : Str) : List ExceptHandler → List (Value × (Addr → Value → Option Addr → TS)) → Prop
  | nil : HdsA X n [] []
  | cons {x : Str} {c : Value} {ts : Addr → Value → Option Addr → TS} {st : Stmt} {sts : List Stmt} {q1 q2 : Pos} {hs : List ExceptHandler} {l : List (Value × (Addr → Value → Option Addr → TS))} (hc : Names X x c)
      (hsu : ∀ (a : Addr) (oe : Obj) (cls : Value) (d : Option Addr) (pn : List (Addr × Obj)), Zc cls d oe → (∃ vs, oe.data = .fields vs) → PSs (X.suite a ((a, oe) :: pn)) (st :: sts) (ts a cls d)) (r : HdsA X n hs l) :
      HdsA X n (.ExceptHandler (some (.Name x q1)) (some n) (st :: sts) q2 :: hs) ((c, ts) :: l)
section
variable {X : Cx} {n : Str} {i : Nat} {bd : List Stmt} {h0 : ExceptHandler} {hs : List ExceptHandler} {l : List (Value × (Addr → Value → Option Addr → TS))} {pos : Pos} {tb : WX → TS} {Wo : WX}
theorem ps_try_manyA (hst : X.stack = X.env :: X.outer) (hfm : X.env.frame = some X.env.locals) (hnd : X.N.Nodup) (hni : X.N[i]? = some n) (hnl : X.env.kindOf n = some .local) (tk : Takes X Wo)
    (hb : ∀ (W : WX) (pn : List (Addr × Obj)) (xe : Value → Shared → Prop), Takes (X.tr pn xe) W → PassesOwn (model X.prog X.w) X.A X.env xe → PSs (X.tr pn xe) bd (tb W))
    (hh : HdsA X n (h0 :: hs) l) : PS X (.Try bd (h0 :: hs) [] [] pos) (fun D σ H => tb (wManyA X.K i Wo D l) D σ H) := by
  refine ⟨fun pins s σ H D I hw => ?_⟩
  have kk := I.ok
  have hfr2 : X.A.frames = some (X.env :: X.outer) := kk.frames.trans (congrArg some hst)
  have hlo : Loc X.env.scope n := Or.inl hnl
  refine wpAny_Try_except (wpAny_mono ((hb (wManyA X.K i Wo D l) (X.pn ++ pins) (fun e z1 => wpAny (model X.prog X.w) X.A (noteFrame e X.env) (fun _ z2 => wpAny (model X.prog X.w) X.A (setFlight e none) (fun _ z3 =>
    wpAny (model X.prog X.w) X.A (handleBy e X.env (h0 :: hs)) (SP X pins D) X.xe z3) X.xe z2) X.xe z1) (fun u z' xx => ?_) PassesOwn.looking).run [] s σ H D (I.toTry _) hw) (fun fl z1 hsp => ?_) (fun _ _ y => y))
  · obtain ⟨a, B, sI, pins', τ, G, cls, d, rfl, J', nb, up, sky, na, hos, hag, wch⟩ := xx
    have J : Inv X pins τ G sI := J'.ofTry kk
    have sky2 : Sky B (X.env :: X.outer) a (Zc cls d) X.env.locals z'.heap := hst ▸ sky
    refine Sky.land Zc.steady hfr2 hfm sky2 fun g3 fl3 up3 => ?_
    have J3 : Inv X pins τ G { z' with heap := g3 } := J.landed nb fl3.1 (up.trans up3) hos hag
    obtain ⟨o3, v3, he3, hz3, hd3⟩ := fl3.there
    have nin : a ∉ frs (X.env :: X.outer) := fun hm => by
      obtain ⟨_, o', e', hnf⟩ := fl3.2.2.1.mem hm
      rw [he3] at e'; cases e'; exact hnf _ hd3
    have nL : a ≠ X.env.locals := fun y => nin (List.mem_filterMap.mpr ⟨X.env, List.mem_cons_self, hfm.trans (congrArg some y.symm)⟩)
    have nF : a ∉ X.fs := fun hm => by
      obtain ⟨e, he, y⟩ := List.mem_filterMap.mp hm
      exact nin (List.mem_filterMap.mpr ⟨e, List.mem_cons_of_mem _ he, y⟩)
    have S3 := J3.suite he3 hd3 na nL nF
    have go : ∀ {hs' : List ExceptHandler} {l' : List (Value × (Addr → Value → Option Addr → TS))}, HdsA X n hs' l' → wManyA X.K i Wo D l' cls d τ G → wpAny (model X.prog X.w) X.A (handleBy (.ref a) X.env hs') (SP X pins D) X.xe { z' with heap := g3 } := by
      intro hs' l' hk
      induction hk with
      | nil =>
        intro wch
        obtain ⟨k1, k2, k3, oe, vs, T, oT, ts', he, hz, hd, h1, hr⟩ := id fl3
        refine wpAny_handleBy_nil ?_
        unfold PySem.passOn
        refine wpAny_bind (wpAny_field he hd h1 ?_)
        have fin : wpAny (model X.prog X.w) X.A (setFlight (.ref a) X.env.frame) (fun _ z4 => wpAny (model X.prog X.w) X.A (throw (.ref a) : Sem Flow) (SP X pins D) X.xe z4) X.xe { z' with heap := g3 } := by
          rw [hfm]
          exact HandSPX.setFlight_upZ fl3 fun h4 hh4 up4 => wpAny_throw (tk _ _ ⟨a, B, sI, pins, τ, G, cls, d, rfl, J, nb, (up.trans up3).trans up4, .inr (.inr (hst ▸ hh4)), na, hos, hag, wch⟩)
        rw [if_neg (by simp : ¬ ((Value.ref T == Value.none) = true))]
        first | exact wpAny_bind (wpAny_pure (wpAny_bind fin)) | exact wpAny_bind fin
      | @cons x c ts st sts q1 q2 hs2 l2 hc hsu r ih =>
        intro wch
        obtain ⟨b, hb1, yes, no⟩ := wch
        refine wpAny_handleBy_cons (codeAny_handlers_test ?_) (fun y => by cases y)
        have LT : PySem.W.Looks (model X.prog X.w) g3 (typeOf (.ref a)) cls := fun A Q E s k q => wpAny_typeOf_ref (k _ _ he3) (hz3.1.symm ▸ q)
        have LM := PySem.W.exm_one (M := model X.prog X.w) J3.kIn LT hb1
        have tst : ∀ {Q : Value → Shared → Prop} {E : Value → Shared → Prop}, Q c { z' with heap := g3 } → wpAny (model X.prog X.w) (X.A.mark (some (.ref a))) (eval (.Name x q1) X.env) Q E { z' with heap := g3 } := fun {Q E} y => by
          rcases hc with ⟨hg, hdb, hm | ⟨hm, hv, hnn⟩⟩
          · exact ld_glob (X := X.suite a ((a, o3) :: (X.pn ++ pins))) S3 hg hm y hdb
          · exact ld_blt (X := X.suite a ((a, o3) :: (X.pn ++ pins))) S3 hg hm hv y hnn hdb
        refine tst (LM.here ?_)
        cases b with
        | false => exact ih (no rfl)
        | true =>
          refine codeAny_handlers_suite_as (HandSPX.lands_againZ fl3 fun g4 fl4 up4 => ?_)
          have J4 : Inv X pins τ G { z' with heap := g4 } := J.landed nb fl4.1 ((up.trans up3).trans up4) hos hag
          obtain ⟨o4, v4, he4, hz4, hd4⟩ := fl4.there
          refine store_ok (X := X.suite a ((a, o4) :: (X.pn ++ pins))) (v := .ref a) (J4.suite he4 hd4 na nL nF) hnd hni hlo rfl (fun s5 S5 => ?_) (.inr hnl)
          refine wpAny_mono ((hsu a o4 cls d (X.pn ++ pins) hz4 ⟨_, hd4⟩).run [] s5 _ G _ S5 (yes rfl a na)) (fun fl z6 hsp => ?_) (fun _ _ y => y.elim)
          have over : ∀ {τ6 : L2.St} {G6 : Hp} {R : Shared → Prop}, Inv (X.suite a ((a, o4) :: (X.pn ++ pins))) [] τ6 G6 z6 → (∀ z7, Inv X pins (τ6.set i none) G6 z7 → R z7) →
              wpAny (model X.prog X.w) X.A (do bindName X.env n .none; unbindBehindTheSuite X.env n q2) (fun _ z7 => R z7) X.xe z6 := fun S6 hq => gone_ok (S6.unsuite kk) hnd hni hnl hq
          cases fl with
          | next => obtain ⟨τ6, G6, S6, q6⟩ := hsp; exact over S6 fun z7 J7 => ⟨_, _, J7, q6⟩
          | brk => obtain ⟨τ6, G6, S6, q6⟩ := hsp; exact over S6 fun z7 J7 => ⟨_, _, J7, q6⟩
          | cont => obtain ⟨τ6, G6, S6, q6⟩ := hsp; exact over S6 fun z7 J7 => ⟨_, _, J7, q6⟩
          | ret u => obtain ⟨v6, τ6, G6, S6, r6, q6⟩ := hsp; exact over S6 fun z7 J7 => ⟨_, _, _, J7, r6, q6⟩
    exact go hh wch
  · cases fl with
    | next => obtain ⟨τ, G, J', q⟩ := hsp; exact wpAny_execs_nil ⟨τ, G, J'.ofTry kk, q⟩
    | brk => obtain ⟨τ, G, J', q⟩ := hsp; exact ⟨τ, G, J'.ofTry kk, q⟩
    | cont => obtain ⟨τ, G, J', q⟩ := hsp; exact ⟨τ, G, J'.ofTry kk, q⟩
    | ret u => obtain ⟨v, τ, G, J', r, q⟩ := hsp; exact ⟨v, τ, G, J'.ofTry kk, r, q⟩
end
/-! ### what a law with lambdas knows of the heap: the bag at b, the tables T, these lists -/
/-- all that is no list stays -/
def NL (H H' : Hp) : Prop := ∀ a o, H a = some o → (∀ xs, o ≠ .lst xs) → H' a = some o
theorem tabs_nl {T : List (Addr × Str)} {H H' : Hp} (t : LamX.Tabs T H) (h : NL H H') : LamX.Tabs T H' := fun p hp => by
  obtain ⟨ps, h1, h2, h3⟩ := t p hp
  refine ⟨ps, h _ _ h1 (fun xs z => by cases z), h2, fun pos cv hc => ?_⟩
  obtain ⟨c, e1, e2⟩ := h3 pos cv hc
  exact ⟨c, e1, h _ _ e2 (fun xs z => by unfold LamX.CodeO at z; cases z)⟩
structure ST (b : Addr × Addr) (T : List (Addr × Str)) (H : Hp) (L : List (Addr × List V)) : Prop where
  bag : Bag b H
  nb : ∀ p ∈ L, p.1 ≠ b.1 ∧ p.1 ≠ b.2
  kn : ∀ p ∈ L, H p.1 = some (.lst p.2)
  tab : LamX.Tabs T H
section
variable {b : Addr × Addr} {T : List (Addr × Str)} {p : Addr} {H H' : Hp} {L L' : List (Addr × List V)} {o o' : List V}
theorem ST.same (h : ST b T H L) (s : Same H H') : ST b T H' L := ⟨h.bag.same s, h.nb, fun q hq => s _ _ (h.kn q hq), h.tab.ext s⟩
theorem ST.mv (h : ST b T H L) (m : Mv b.1 H H') (g : Bag b H') : ST b T H' L := ⟨g, h.nb, fun q hq => m _ _ (h.nb q hq).1 (h.kn q hq), tabs_nl h.tab (fun a o e n => m a o (fun z => by
  obtain ⟨_, _, _, _, _, h1, _⟩ := h.bag
  rw [z, h1] at e
  exact n _ (Option.some.inj e).symm) e)⟩
theorem ST.add (h : ST b T H L) (n : p ≠ b.1) (n2 : p ≠ b.2) (e : H p = some (.lst o)) : ST b T H ((p, o) :: L) :=
  ⟨h.bag, fun q hq => (List.mem_cons.mp hq).elim (fun z => by rw [z]; exact ⟨n, n2⟩) (h.nb q), fun q hq => (List.mem_cons.mp hq).elim (fun z => by rw [z]; exact e) (h.kn q), h.tab⟩
theorem ST.new (h : ST b T H L) (n : H p = none) : ST b T (upd H p (.lst o)) ((p, o) :: L) := (h.same (same_upd n)).add (h.bag.ne n) (h.bag.ne2 n) upd_same
theorem ST.newS (h : ST b T H L) (s : Same H H') (n : H p = none) (e : H' p = some (.lst o)) : ST b T H' ((p, o) :: L) := (h.same s).add (h.bag.ne n) (h.bag.ne2 n) e
theorem ST.newM (h : ST b T H L) (m : Mv b.1 H H') (g : Bag b H') (n : H p = none) (e : H' p = some (.lst o)) : ST b T H' ((p, o) :: L) := (h.mv m g).add (h.bag.ne n) (h.bag.ne2 n) e
theorem ST.sub (h : ST b T H L) (hs : ∀ q ∈ L', q ∈ L) : ST b T H L' := ⟨h.bag, fun q hq => h.nb q (hs q hq), fun q hq => h.kn q (hs q hq), h.tab⟩
theorem ST.get (h : ST b T H L) (hm : (p, o) ∈ L) : H p = some (.lst o) := h.kn _ hm
theorem ST.ne (h : ST b T H L) (hm : (p, o) ∈ L) : p ≠ b.1 := (h.nb _ hm).1
theorem ST.put (h : ST b T H ((p, o) :: L)) (hd : ∀ q ∈ L, q.1 ≠ p) : ST b T (upd H p (.lst o')) ((p, o') :: L) :=
  ⟨h.bag.upd (h.nb _ (.head _)).1 (h.nb _ (.head _)).2, fun q hq => (List.mem_cons.mp hq).elim (fun z => by rw [z]; exact h.nb (p, o) (.head L)) (fun hq => h.nb q (.tail _ hq)),
    fun q hq => (List.mem_cons.mp hq).elim (fun z => by rw [z]; exact upd_same) (fun hq => by rw [upd_ne (hd q hq)]; exact h.kn q (.tail _ hq)), tabs_nl h.tab (fun a u e n => by
      have e2 := h.kn (p, o) (.head _)
      rw [upd_ne (fun z => by rw [z, e2] at e; exact n _ (Option.some.inj e).symm)]
      exact e)⟩
theorem ST.apart (h : ST b T H L) (n : H p = none) : ∀ q ∈ L, q.1 ≠ p := fun q hq => ne_of_none (h.kn q hq) n
theorem ST.nil (g : Bag b H) (t : LamX.Tabs T H) : ST b T H [] := ⟨g, (fun _ h => absurd h List.not_mem_nil), (fun _ h => absurd h List.not_mem_nil), t⟩
theorem ST.extN (h : ST b T H L) (e : LamX.ExtN H H') (t : LamX.Tabs T H') : ST b T H' L := by
  refine ⟨?_, h.nb, fun q hq => e _ _ (h.kn q hq) (fun ps z => by cases z), t⟩
  obtain ⟨ns, i, r, x, c, h1, h2, h3⟩ := h.bag
  exact ⟨ns, i, r, x, c, e _ _ h1 (fun ps z => by cases z), e _ _ h2 (fun ps z => by cases z), h3⟩
end
/-! ### takes, where the slots are as many as the names -/
theorem takes_len {X : Cx} {W : WX} (tk : Takes X W) : Takes X (fun cls d σ H => σ.length = X.N.length → W cls d σ H) := fun u s' x => by
  obtain ⟨a, B, sI, pins, σ, H, cls, d, e, I, nb, up, sky, na, os, ag, w⟩ := x
  exact tk u s' ⟨a, B, sI, pins, σ, H, cls, d, e, I, nb, up, sky, na, os, ag, w I.len⟩
/-- what the law's at makes of a lambda that is refused by one of these classes -/
def TAt (cs : List (Addr × Str)) : (XK → Hp → VK → Prop) → Hp → VK → Prop := fun tl H Q =>
  tl (fun cls d H' => ∃ e ∈ cs, cls = .ref e.1 ∧ ∃ (dd : Addr) (v : V), d = some dd ∧ H' dd = some (.xd [(("at" : Str), v), (("word" : Str), .str e.2)]) ∧ ∀ p, H' p = none → Q (.ref p) (upd H' p (.lst [.str e.2, v]))) H (fun _ _ => False)
/-- a class of refusals with a place -/
structure AtC (K : PySem.W.Frag) (mg : Str → Option Value) (nm : Str) (C : Addr) : Prop where
  gC : mg nm = some (.ref C)
  xf : XfC K C
  no : PySem.W.findIn K (.ref C) "at" = some none
theorem set_get {σ : L2.St} {i : Nat} {v : Option V} (h : i < σ.length) : (σ.set i v)[i]? = some v := by
  rw [List.getElem?_set_self h]
/-! ### a law that hands lambdas to a def -/
def LamTo (X : Cx) (T : List (Addr × Str)) (nm : Str) (TT : (XK → Hp → VK → Prop) → Hp → VK → Prop) : Prop :=
  ∀ {params : Arguments} {body : Expr} {scope : Scope} {t : XK → TE} {p lpos pos : Pos} {k : Nat}, Room (k + 2) X.A → LamX.LamS X.env.scope scope → defaultsOf params X.env = ([], []) →
    (∀ (q : Str) (cl : List (Str × Addr)) (pm cv ctv : Value), bindArgs (PySem.W.kla_fn "<lambda>" q params body scope cl pm cv ctv) ⟨[], []⟩ = pure []) →
    (∀ (A : Around) (outer : List Env) (s : Shared) (H : Hp) (E : XK) (f c' : Addr), Room k (A.deeper (LamX.lamEnv X scope s.heap.objs.size f c')) → PE (LamX.lamCx X A outer s H E scope f c') body (t E)) →
    PE X (.Call (.Name nm p) [.Lambda params body scope lpos] [] pos) (LamX.tLam T TT t)
theorem okL {P : Program} {w : World} {K : PySem.W.Frag} {mg : Str → Option Value} {base : Heap} {x qual : Str} {st : Stmt} {f c : Addr} {N ps : List Str} {k : Nat} {sp : Sp} {oc : Value} {od an : Option Addr} {osl : Array (Option Value)} {kV doc pm ct : Value}
    (lk : K.lookup f = some ⟨oc, od, .func (PySem.W.fnOf x qual (defArgs st) (defBody st) (defScope st) .none kV doc pm an (.ref c) ct), osl⟩) (hcd : PySem.W.codeIn K (.ref c) qual = true) (S : FnScope N ps (defScope st)) (len : ∀ vs H Q E, sp vs H Q E → vs.length = ps.length)
    (hbody : ∀ (A : Around) (outer : List Env) (s : Shared) (H : Hp) (vs : List V) (Q : VK) (E : XK), Room k (A.deeper (envOfC qual (defScope st) s.heap.objs.size f (.ref c))) → sp vs H Q E →
      ∃ t, PSs (cxOf CX0 P w K mg base N qual (defScope st) f (.ref c) A outer s H E).nox (defBody st) t ∧ t { nx := fun _ H' => Q .non H', rt := Q } (L2.start N vs) H) :
    FnOk P w K mg base CX0 (k + 1) f (PySem.W.fnOf x qual (defArgs st) (defBody st) (defScope st) .none kV doc pm an (.ref c) ct) ps sp := by
  refine fn_of lk hcd S len fun A outer s H vs Q E hr hsp => ?_
  obtain ⟨t, h, q⟩ := hbody A outer s H vs Q E hr hsp
  exact ⟨t, h.nox, q⟩
/-! ### a class of refusals without a value -/
def spIni0 (K : PySem.W.Frag) (C : Addr) (nm : Str) : Sp := fun vs H Q _ => ∃ (a : Addr), vs = [.ref a] ∧ H a = some (exo a C none) ∧ ∀ d, H d = none → d ≠ a → Q .non (upd (upd H d (exd d [(("word" : Str), .str nm)])) a (exo a C (some d)))
section
variable {X : Cx} {k : Nat} {nm : Str} {C : Addr} {sp : Sp} {p pos : Pos}
theorem pmk_c0 (x : XcOk X.prog X.w X.K X.mg X.base k nm C sp) (hr : Room (k + 1) X.A) (hg : Gl X nm) (hdb : (nm == ("__debug__" : Str)) = false := by decide) : PMk X (.Call (.Name nm p) [] [] pos) (tMkO C sp [] tNil) := by
  obtain ⟨fI, fd, ps, T, iC, tI, F1, hb, hm⟩ := x
  intro pins s σ H Q I h
  obtain ⟨nm', q, N, bs, bm, sn, sub, ab, col, dd, k0, k1, k2, k3, k5, hC, hbm⟩ := T.cls
  refine wpAny_Call_Name_kw (ld_glob I hg hm ?_ hdb)
  refine PySem.W.callWith_K0 I.kIn T.kC ?_
  show wpAny _ _ (call (.ref C) []) _ _ _
  have q1 : ∀ a, H a = none → sp (.ref a :: ([] ++ [])) (upd H a (exo a C none)) _ _ := h.2
  obtain ⟨hp, g, dr, tk, os⟩ := s
  have hsz : hp.objs.size ≤ hp.objs.size + 1 := Nat.le_succ _
  have hq := q1 (hp.objs.size + 1) (I.hok.fresh hsz)
  have kk : ∀ b o, hp.get? b = some o → ((hp.push (PySem.W.kdv_tup [])).push (PySem.HandSPX.excO C hp.objs.size)).get? b = some o := fun b o e => Heap.get?_push_of_some _ (Heap.get?_push_of_some _ e)
  have hget : ((hp.push (PySem.W.kdv_tup [])).push (PySem.HandSPX.excO C hp.objs.size)).get? (hp.objs.size + 1) = some (PySem.HandSPX.excO C hp.objs.size) := by heap_get
  have I2 : Inv X pins σ (upd H (hp.objs.size + 1) (exo (hp.objs.size + 1) C none)) ⟨(hp.push (PySem.W.kdv_tup [])).push (PySem.HandSPX.excO C hp.objs.size), g, dr, tk, os⟩ :=
    I.laid (t' := tk) (a := hp.objs.size + 1) (o := exo (hp.objs.size + 1) C none) (h' := (hp.push (PySem.W.kdv_tup [])).push (PySem.HandSPX.excO C hp.objs.size)) kk hsz (exo_ok hget)
  have r2 : Vals [V.ref (hp.objs.size + 1)] [Value.ref (hp.objs.size + 1)] := .cons rfl .nil
  have hl : ([Value.ref (hp.objs.size + 1)] ++ []).length = ps.length := (F1.len _ _ _ _ hq)
  refine wpAny_call (PySem.HandSPX.call_own F.excBase_ValueError (fun Y => PySem.HandSPX.refsVE_contains Y bm hbm) (I.kIn _ _ hC) (PySem.W.looks_findIn I.kIn iC) (fun self => PySem.W.bind_fn I.kIn self tI) (Nat.zero_le _)
    (codeAny_mono (F1.run _ X.stack _ _ ⟨[Value.ref (hp.objs.size + 1)], []⟩ [Value.ref (hp.objs.size + 1)] _ _ (fun _ _ _ => False) (hr.make C [] []) (I2.env0.make C [] []) (hb _ [Value.ref (hp.objs.size + 1)] I2.kIn hl) r2 hq) fun r s' hq' => ?_))
  cases r with
  | error er => exact (show False from hq').elim
  | ok fl =>
    cases fl with
    | ret u =>
      obtain ⟨v, H2, os2, bare2, un2, hok2, rv, ev, d, fs, ea, ed, hd1, q2⟩ := hq'
      subst ev
      obtain ⟨h2, g2, d2, t2, os'⟩ := s'
      exact ⟨rv, mk_end (raises_own T.exC T.tyC) I hsz kk un2 hok2 os2 bare2 ea ed hd1 q2⟩
    | next => exact False.elim hq'
    | brk => exact False.elim hq'
    | cont => exact False.elim hq'
end
theorem mk_inner0 {K : PySem.W.Frag} {C : Addr} {nm : Str} {H1 : Hp} {Q : XK}
    (q : ∀ H' d, Same H1 H' → H1 d = none → H' d = some (.xd [(("word" : Str), .str nm)]) → Q (.ref C) (some d) H') :
    ([] : List V).length ≤ 1000 ∧ ∀ a, H1 a = none → spIni0 K C nm (.ref a :: (([] : List V) ++ [])) (upd H1 a (exo a C none))
      (fun v H2 => v = .non ∧ ∃ (d : Addr) (fs : List (Str × V)), H2 a = some (exo a C (some d)) ∧ H2 d = some (exd d fs) ∧ H1 d = none ∧ Q (.ref C) (some d) (upd (del H2 a) d (.xd fs))) (fun _ _ _ => False) := by
  refine ⟨Nat.zero_le _, fun a na => ⟨a, rfl, upd_same, fun d nd da => ⟨rfl, d, [(("word" : Str), .str nm)], upd_same, ?_, ?_, ?_⟩⟩⟩
  · rw [upd_ne da, upd_same]
  · rw [upd_ne da] at nd
    exact nd
  · rw [upd_ne da] at nd
    refine q _ d (fun b o h => ?_) nd upd_same
    have hb : b ≠ d := ne_of_none h nd
    have hba : b ≠ a := ne_of_none h na
    rw [upd_ne hb, del_ne hba, upd_ne hba, upd_ne hb, upd_ne hba]
    exact h
/-- what the law's tried makes of a lambda: told, or refused by the class at C, whose word it tells -/
def TTried (C : Addr) (nm : Str) : (XK → Hp → VK → Prop) → Hp → VK → Prop := fun tl H Q =>
  tl (fun cls d H' => cls = .ref C ∧ ∃ (dd : Addr) (fs : List (Str × V)), d = some dd ∧ H' dd = some (.xd fs) ∧ fs.lookup ("word" : Str) = some (.str nm) ∧ ∀ p, H' p = none → Q (.ref p) (upd H' p (.tup [.str "refused", .str nm]))) H
    (fun v H1 => ([V.str "told", v] : List V).length ≤ sizeLine ∧ ∀ p, H1 p = none → Q (.ref p) (upd H1 p (.tup [.str "told", v])))
/-! ### a def called by keywords alone -/
def gK {α : Type} (perm : List α → List α) : List α → List α → List α
  | [], ws => perm ws
  | _ :: _, _ => []
section
variable {X : Cx} {CX : CXT} {k : Nat} {f : Addr} {fd : FuncData} {ps ks : List Str} {sp : Sp} {E : XK} {x : Str} {p pos : Pos} {kws : List Keyword} {tk : TA} {g : List Value → List Value → List Value} {gV : List V → List V → List V}
theorem pe_callK0 (F : FnOk X.prog X.w X.K X.mg X.base CX k f fd ps sp) (hr : Room k X.A) (hg : Gl X x) (hm : X.mg x = some (.ref f)) (hk : PySem.W.keepIn X.K (.ref f) = true) (hb : KBinds X.K fd ps ks g gV) (hx : Passes CX X E) (hkw : PK X kws tk)
    (hall : ((backToKw pos (keywordEach kws X.env)).all fun x => x.1.isSome) = true := by rfl) (hks : (backToKw pos (keywordEach kws X.env)).filterMap (·.1) = ks := by rfl) (hdb : (x == ("__debug__" : Str)) = false := by decide)
    (hpl : ((backTo pos (starEach [] X.env)).any (·.1) || (backToKw pos (keywordEach kws X.env)).any fun x => x.1.isNone) = false := by rfl) : PE X (.Call (.Name x p) [] kws pos) (tCallK sp gV E tNil tk) := by
  refine ⟨fun pins s σ H Q I h => wpAny_Call_Name_kw (ld_glob I hg hm ?_ hdb)⟩
  refine PySem.W.callWith_KW0 (I.ok.mod.kin) hk hall (thn (hkw.run pos pins s σ H (fun zs H2 => sp (gV [] zs) H2 Q E) I h) fun ws s2 x => ?_) hpl
  obtain ⟨zs, H2, I2, rz, q2⟩ := x
  refine ⟨I2.kIn, ?_⟩
  rw [hks]
  exact run_fnk F hr hb hx I2 .nil rz q2
end
def CalK (P : Program) (w : World) (K : PySem.W.Frag) (mg : Str → Option Value) (base : Heap) (k : Nat) (nm : Str) (ps ks : List Str) (gV : List V → List V → List V) (sp : Sp) : Prop :=
  ∃ (f : Addr) (fd : FuncData) (g : List Value → List Value → List Value), FnOk P w K mg base (L2.CX P w) k f fd ps sp ∧ mg nm = some (.ref f) ∧ PySem.W.keepIn K (.ref f) = true ∧ KBinds K fd ps ks g gV
theorem CalK.mono {P : Program} {w : World} {K : PySem.W.Frag} {mg : Str → Option Value} {base : Heap} {j k : Nat} {nm : Str} {ps ks : List Str} {gV : List V → List V → List V} {sp : Sp} (c : CalK P w K mg base j nm ps ks gV sp) (h : j ≤ k) : CalK P w K mg base k nm ps ks gV sp := by
  obtain ⟨f, fd, g, a, b, d, e⟩ := c
  exact ⟨f, fd, g, a.mono h, b, d, e⟩
section
variable {X : Cx} {k : Nat} {ps ks : List Str} {sp : Sp} {nm : Str} {p pos : Pos} {kws : List Keyword} {tk : TA} {gV : List V → List V → List V}
theorem pe_callKF (c : CalK X.prog X.w X.K X.mg X.base k nm ps ks gV sp) (hr : Room k X.A) (hg : Gl X nm) (hkw : PK X kws tk)
    (hall : ((backToKw pos (keywordEach kws X.env)).all fun x => x.1.isSome) = true := by rfl) (hks : (backToKw pos (keywordEach kws X.env)).filterMap (·.1) = ks := by rfl) (hdb : (nm == ("__debug__" : Str)) = false := by decide)
    (hpl : ((backTo pos (starEach [] X.env)).any (·.1) || (backToKw pos (keywordEach kws X.env)).any fun x => x.1.isNone) = false := by rfl) : PE X (.Call (.Name nm p) [] kws pos) (tCallK sp gV E0 tNil tk) := by
  obtain ⟨f, fd, g, a, b, d, e⟩ := c
  exact pe_callK0 a hr hg b d e passL hkw hall hks hdb hpl
end
def two {α : Type} : List α → List α
  | [a, b] => [b, a]
  | _ => []
theorem kb_one {K : PySem.W.Frag} {x qual y : Str} {st : Stmt} {f : Addr} {fd : FuncData} (F : Fun K x qual st f fd) (h : ∀ (kV doc pm : Value) (an : Option Addr) (cdv ct : Value) (u : Value), bindArgs (PySem.W.fnOf x qual (defArgs st) (defBody st) (defScope st) .none kV doc pm an cdv ct) ⟨[], [(y, u)]⟩ = pure [(y, u)]) :
    KBinds K fd [y] [y] (gK id) (gK id) := by
  refine ⟨fun s us ws X hl M A E Q q => ?_, fun {vs us zs ws} r rz => ?_⟩
  · obtain ⟨oc, od, kV, doc, pm, an, cdv, ct, osl, rfl, _⟩ := F.ex
    cases us with
    | cons _ _ => exact absurd hl (by show 0 ≠ 1; decide)
    | nil =>
      match ws, hl with
      | [u], _ =>
        show wpAny M A (bindArgs _ ⟨[], [(y, u)]⟩) Q E s
        rw [h]
        exact wpAny_pure q
  · cases r with
    | nil => exact rz
    | cons _ _ => exact .nil
theorem kb_two {K : PySem.W.Frag} {x qual y z : Str} {st : Stmt} {f : Addr} {fd : FuncData} (F : Fun K x qual st f fd) (h : ∀ (kV doc pm : Value) (an : Option Addr) (cdv ct : Value) (u v : Value), bindArgs (PySem.W.fnOf x qual (defArgs st) (defBody st) (defScope st) .none kV doc pm an cdv ct) ⟨[], [(z, u), (y, v)]⟩ = pure [(y, v), (z, u)]) :
    KBinds K fd [y, z] [z, y] (gK two) (gK two) := by
  refine ⟨fun s us ws X hl M A E Q q => ?_, fun {vs us zs ws} r rz => ?_⟩
  · obtain ⟨oc, od, kV, doc, pm, an, cdv, ct, osl, rfl, _⟩ := F.ex
    cases us with
    | cons _ _ => exact absurd hl (by show 0 ≠ 2; decide)
    | nil =>
      match ws, hl, q with
      | [], hl, q => exact absurd hl (by show 0 ≠ 2; decide)
      | [_], hl, q => exact absurd hl (by show 0 ≠ 2; decide)
      | [u, v], _, q =>
        show wpAny M A (bindArgs _ ⟨[], [(z, u), (y, v)]⟩) Q E s
        rw [h]
        exact wpAny_pure q
      | _ :: _ :: _ :: _, hl, q => exact absurd hl (by show 0 ≠ 2; decide)
  · cases r with
    | cons _ _ => exact .nil
    | nil =>
      cases rz with
      | nil => exact .nil
      | cons a r => cases r with
        | nil => exact .nil
        | cons b r => cases r with
          | nil => exact .cons b (.cons a .nil)
          | cons _ _ => exact .nil
/-- what the law's most makes of a lambda that is refused by the class at C -/
def TMost (C : Addr) (nm : Str) : (XK → Hp → VK → Prop) → Hp → VK → Prop := fun tl H Q =>
  tl (fun cls d H' => cls = .ref C ∧ ∃ (dd : Addr) (v : V), d = some dd ∧ H' dd = some (.xd [(("most" : Str), v), (("word" : Str), .str nm)]) ∧ ∀ p, H' p = none → Q (.ref p) (upd H' p (.lst [.str nm, v]))) H (fun _ _ => False)
end WB
namespace WB
open PySem PySem.Spec PyProof.Rows L2
/-! ### lambdas that are kept in a list -/
abbrev lamO (X : Cx) (params : Arguments) (body : Expr) (scope : Scope) (pm : Value) (c' : Addr) (ctv : Value) : Obj := PySem.W.kla_obj "<lambda>" (X.env.qual ++ "<lambda>") params body scope (cloFrom X.env.cells scope.names []) pm c' ctv
section
variable {X : Cx} {pins : List (Addr × Obj)} {σ : L2.St} {H : Hp} {s : Shared}
theorem inv_pin (I : Inv X pins σ H s) (hst : X.stack = X.env :: X.outer) (hfm : X.env.frame = some X.env.locals) {f : Addr} {o : Obj} (hf : s.heap.get? f = some o) (hn : H f = none) (hfr : f ∉ frs X.stack) (hd : ∀ v, o.data ≠ .cell v) : Inv X (pins ++ [(f, o)]) σ H s := by
  have nL : f ≠ X.env.locals := fun y => hfr (List.mem_filterMap.mpr ⟨X.env, by rw [hst]; exact List.mem_cons_self, hfm.trans (congrArg some y.symm)⟩)
  have nF : f ∉ X.fs := fun hm => by
    obtain ⟨e, he, y⟩ := List.mem_filterMap.mp hm
    exact hfr (List.mem_filterMap.mpr ⟨e, by rw [hst]; exact List.mem_cons_of_mem _ he, y⟩)
  refine { I with pin := fun p hp => ?_ }
  rcases List.mem_append.mp hp with h | h
  · exact I.pin p (List.mem_append_left _ h)
  rcases List.mem_append.mp h with h | h
  · exact I.pin p (List.mem_append_right _ h)
  · rw [List.mem_singleton.mp h]
    exact ⟨hf, hn, nL, nF, hd⟩
theorem inv_unpin {l : List (Addr × Obj)} (I : Inv X (pins ++ l) σ H s) : Inv X pins σ H s := by
  refine { I with pin := fun p hp => I.pin p ?_ }
  rcases List.mem_append.mp hp with h | h
  · exact List.mem_append_left _ h
  · exact List.mem_append_right _ (List.mem_append_left _ h)
end
section
variable {X : Cx} {T : List (Addr × Str)} {c P : Addr} {params : Arguments} {body : Expr} {scope : Scope} {lpos lp py pos : Pos} {y : Str} {i : Nat} {rest : List Stmt} {u : Addr → Addr → TS}
theorem sp_back {X : Cx} {pins l : List (Addr × Obj)} {D : Ends} {fl : Flow} {s : Shared} (kk : Cx.Ok X) (h : SP (X.tr (X.pn ++ (pins ++ l)) X.xe) [] D fl s) : SP X pins D fl s := by
  cases fl with
  | next => obtain ⟨τ, G, J, q⟩ := h; exact ⟨τ, G, inv_unpin (J.ofTry kk), q⟩
  | brk => obtain ⟨τ, G, J, q⟩ := h; exact ⟨τ, G, inv_unpin (J.ofTry kk), q⟩
  | cont => obtain ⟨τ, G, J, q⟩ := h; exact ⟨τ, G, inv_unpin (J.ofTry kk), q⟩
  | ret u => obtain ⟨v, τ, G, J, r, q⟩ := h; exact ⟨v, τ, G, inv_unpin (J.ofTry kk), r, q⟩
/-- xs = [lambda: e] -/
theorem pss_lamset {q : Str} (hq : X.env.qual ++ "<lambda>" = q) (hst : X.stack = X.env :: X.outer) (hfm : X.env.frame = some X.env.locals) (hN : X.N.Nodup) (hi : X.N[i]? = some y) (hy : Loc X.env.scope y) (TB : LamX.TabB X.base X.mg c P) (hcode : X.env.code = .ref c) (hmT : (P, X.env.qual ++ "<lambda>") ∈ T)
    (hu : ∀ p ∈ T, p.1 = P → p.2 = X.env.qual ++ "<lambda>") (L : LamX.LamS X.env.scope scope) (hdef : defaultsOf params X.env = ([], []))
    (hrest : ∀ (f c' : Addr) (pm ctv : Value) (pn' : List (Addr × Obj)), f ∉ frs X.stack → (f, lamO X params body scope pm c' ctv) ∈ pn' → (∀ p ∈ X.pn, p ∈ pn') → PSs (X.tr pn' X.xe) rest (u f c'))
    (hs : swapsWith (.List [.Lambda params body scope lpos] lp) (some (.Name y py)) pos.line X.env = pure false := by rfl) (hl : X.fn y = true ∨ X.env.scope.names.lookup y = some .local := by first | exact .inr rfl | exact .inl rfl) :
    PSs X (.Assign [.Name y py] (.List [.Lambda params body scope lpos] lp) pos :: rest)
      (fun D σ H => LamX.Tabs T H ∧ ∀ (f c' : Addr) (H1 : Hp), LamX.ExtN H H1 → LamX.Tabs T H1 → H1 f = none → H1 c' = some (LamX.CodeO c' q) → ∀ p, H1 p = none → u f c' D (σ.set i (some (.ref p))) (upd H1 p (.lst [.ref f]))) := by
  refine ⟨fun pins s σ H D I h => ?_⟩
  subst hq
  obtain ⟨hT, h⟩ := h
  have kk := I.ok
  refine wpAny_execs_cons (wpAny_Assign_Name (wpAny_List_spliced ?_) hs)
  show wpAny _ _ (spliced [(false, _)]) _ _ _
  refine Calls.spliced_cons (LamX.lam_make2 I TB hcode hmT hu hT hdef (L.has I.ok) fun f c' pm ctv H1 s' I1 eN T1 hf hfn hfr hco => Calls.spliced_nil ⟨(by show 1 ≤ sizeLine; decide), ?_⟩)
  have I2 := inv_pin I1 hst hfm hf hfn hfr (fun v z => by cases z)
  have hfresh := I2.hok.fresh (Nat.le_refl s'.heap.objs.size)
  have I3 : Inv X (pins ++ [(f, lamO X params body scope pm c' ctv)]) σ (upd H1 s'.heap.objs.size (.lst [.ref f])) { s' with heap := s'.heap.push { cls := .type "list", data := .seq (List.toArray [Value.ref f]) } } :=
    I2.laid (t' := s'.toks) (fun b w e => Heap.get?_push_of_some _ e) (Nat.le_refl _) ⟨(by show 1 ≤ sizeLine; decide), [Value.ref f], 0, .cons rfl .nil, Heap.get?_push_size s'.heap rfl⟩
  refine store_ok (v := .ref s'.heap.objs.size) I3 hN hi hy rfl (fun s2 I4 => ?_) hl
  have kr := (hrest f c' pm ctv (X.pn ++ (pins ++ [(f, lamO X params body scope pm c' ctv)])) hfr (List.mem_append_right _ (List.mem_append_right _ (.head _))) (fun p hp => List.mem_append_left _ hp)).run [] s2 _ _ D (I4.toTry X.xe) (h f c' H1 eN T1 hfn hco _ hfresh)
  exact wpAny_mono kr (fun fl z hsp => sp_back kk hsp) (fun _ _ y => y)
variable {p1 p2 p3 p4 : Pos}
/-- xs.append(lambda: e) -/
theorem pss_lamapp {q : Str} (hq : X.env.qual ++ "<lambda>" = q) (hst : X.stack = X.env :: X.outer) (hfm : X.env.frame = some X.env.locals) (hv : PE X (.Name y p1) (tVar i)) (TB : LamX.TabB X.base X.mg c P) (hcode : X.env.code = .ref c) (hmT : (P, X.env.qual ++ "<lambda>") ∈ T)
    (hu : ∀ p ∈ T, p.1 = P → p.2 = X.env.qual ++ "<lambda>") (L : LamX.LamS X.env.scope scope) (hdef : defaultsOf params X.env = ([], []))
    (hrest : ∀ (f c' : Addr) (pm ctv : Value) (pn' : List (Addr × Obj)), f ∉ frs X.stack → (f, lamO X params body scope pm c' ctv) ∈ pn' → (∀ p ∈ X.pn, p ∈ pn') → PSs (X.tr pn' X.xe) rest (u f c'))
    (hbase : attributeBase (.Name y p1) "append" X.env (eval (.Name y p1) X.env) = eval (.Name y p1) X.env := by rfl) (hline : (p2.endLine == p3.line) = true := by rfl)
    (hs : swapsWith (.Call (.Attribute (.Name y p1) "append" p2) [.Lambda params body scope lpos] [] p3) none p4.line X.env = pure false := by rfl) :
    PSs X (.Expr (.Call (.Attribute (.Name y p1) "append" p2) [.Lambda params body scope lpos] [] p3) p4 :: rest)
      (fun D σ H => LamX.Tabs T H ∧ ∃ p xs, σ[i]? = some (some (.ref p)) ∧ H p = some (.lst xs) ∧ xs.length < sizeLine ∧ ∀ (f c' : Addr) (H1 : Hp), LamX.ExtN H H1 → LamX.Tabs T H1 → H1 f = none → H1 c' = some (LamX.CodeO c' q) → u f c' D σ (upd H1 p (.lst (xs ++ [.ref f])))) := by
  refine ⟨fun pins s σ H D I h => ?_⟩
  subst hq
  obtain ⟨hT, p, xs, hσ, hp, hz, h⟩ := h
  have kk := I.ok
  refine wpAny_execs_cons (wpAny_Expr_any ?_ I.quiet hs)
  refine wpAny_Call_method_late (trees := [(false, _)]) hbase (by rfl) hline rfl (thn (hv.run pins s σ H (fun x H1 => x = .ref p ∧ H1 = H) I ⟨_, hσ, rfl, rfl⟩) fun v s1 x => ?_)
  obtain ⟨x, H1, I1, r1, rfl, rfl⟩ := x
  obtain ⟨h1, h2⟩ := tyV_is (T := "list") I1 r1 (.inl ⟨rfl, xs, SqL.of hp⟩)
  refine ⟨"list", "list.append", PySem.F.plainAttrs_list, PySem.F.slot_list_append, PySem.F.type_list_append, h1, h2, ?_⟩
  refine Calls.callWith_builtin (by rfl) (Calls.evalArgs_plain ?_)
  refine Calls.spliced_cons (LamX.lam_make2 I1 TB hcode hmT hu hT hdef (L.has I1.ok) fun f c' pm ctv H2 s' I2 eN T2 hf hfn hfr hco => Calls.spliced_nil ?_)
  have I3 := inv_pin I2 hst hfm hf hfn hfr (fun v z => by cases z)
  have hp2 := eN _ _ hp (fun ps z => by cases z)
  refine thn (mt_append (X := X) (pins ++ [(f, lamO X params body scope pm c' ctv)]) s' σ H2 (.ref p) [.ref f] v [Value.ref f] (fun v H' => H' = upd H2 p (.lst (xs ++ [.ref f]))) I3 r1 (.cons rfl .nil) ⟨p, xs, .ref f, rfl, rfl, hp2, hz, rfl⟩) fun w s2 x => ?_
  obtain ⟨w', H', I4, r4, rfl⟩ := x
  have kr := (hrest f c' pm ctv (X.pn ++ (pins ++ [(f, lamO X params body scope pm c' ctv)])) hfr (List.mem_append_right _ (List.mem_append_right _ (.head _))) (fun p hp => List.mem_append_left _ hp)).run [] s2 _ _ D (I4.toTry X.xe) (h f c' H2 eN T2 hfn hco)
  exact wpAny_mono kr (fun fl z hsp => sp_back kk hsp) (fun _ _ y => y)
end
section
variable {X : Cx} {TT : (XK → Hp → VK → Prop) → Hp → VK → Prop} {x a : Str} {g f c' : Addr} {k : Nat} {pg : Arguments} {bg : List Stmt} {sg : Scope} {dV kV doc pm cdv ct oc pm' ctv : Value} {an od : Option Addr} {osl : Array (Option Value)} {Ng : List Str}
  {params : Arguments} {body ea : Expr} {scope : Scope} {t : XK → TE} {p pos : Pos} {j : Nat}
/-- g(x), where x is a lambda that was kept -/
theorem pe_actname {q : Str} (hq : X.env.qual ++ "<lambda>" = q) (hpin : (f, lamO X params body scope pm' c' ctv) ∈ X.pn) (hfr : f ∉ frs X.stack) (hg : Gl X x) (hm : X.mg x = some (.ref g)) (hk : PySem.W.keepIn X.K (.ref g) = true) (lk : X.K.lookup g = some ⟨oc, od, .func (PySem.W.fnOf x x pg bg sg dV kV doc pm an cdv ct), osl⟩)
    (hcg : PySem.W.codeIn X.K cdv x = true) (hb : L2.Binds X.K (PySem.W.fnOf x x pg bg sg dV kV doc pm an cdv ct) [a] []) (Sg : FnScope Ng [a] sg) (hNg : Ng[0]? = some a) (hva : Vis sg a) (hG : LamX.GivesTo X Ng x sg g cdv bg a (X.env.qual ++ "<lambda>") TT)
    (hr : Room (k + 2) X.A) (L : LamX.LamS X.env.scope scope) (hbind : ∀ (q : Str) (cl : List (Str × Addr)) (pm cv ctv : Value), bindArgs (PySem.W.kla_fn "<lambda>" q params body scope cl pm cv ctv) ⟨[], []⟩ = pure [])
    (hbody : ∀ (A : Around) (outer : List Env) (s : Shared) (H : Hp) (E : XK) (f c' : Addr), Room k (A.deeper (LamX.lamEnv X scope s.heap.objs.size f c')) → PE (LamX.lamCx X A outer s H E scope f c') body (t E)) (ha : PE X ea (tVar j))
    (hdb : (x == ("__debug__" : Str)) = false := by decide) (hd : (a == ("__debug__" : Str)) = false := by decide) (hcd : (a == ("__classdict__" : Str)) = false := by decide)
    (he : starEach [ea] X.env = (false, eval ea X.env) :: starEach [] X.env := by rfl) (hpl : (backTo pos (starEach [] X.env)).any (·.1) = false := by rfl) :
    PE X (.Call (.Name x p) [ea] [] pos) (fun σ H Q => σ[j]? = some (some (.ref f)) ∧ H c' = some (LamX.CodeO c' q) ∧ TT (fun E H' Q' => t E σ H' Q') H Q) := by
  refine ⟨fun pins s σ H Q I h => wpAny_Call_Name_kw (ld_glob I hg hm (PySem.W.callWith_K I.ok.mod.kin hk ?_ he hpl) hdb)⟩
  subst hq
  obtain ⟨hσ, hco, hT⟩ := h
  refine thn ((pa_cons ha pa_nil he).run pos pins s σ H (fun vs H1 => vs = [.ref f] ∧ H1 = H) I ⟨_, hσ, rfl, rfl⟩) fun us s1 y => ?_
  obtain ⟨vs, H1, I1, r1, rfl, rfl⟩ := y
  obtain ⟨w, rfl, rw_⟩ := r1.one
  have rw2 : w = Value.ref f := rw_
  subst rw2
  refine ⟨I1.kIn, ?_⟩
  obtain ⟨hf, hfn, _⟩ := I1.pin _ (List.mem_append_left _ hpin)
  have rc := LamX.run_ofS (CX := C8.CX0) (E := C8.E0) (Q := Q) lk hcg Sg hr I1.env0 (hb s1 [Value.ref f] I1.kIn rfl) (show Vals [V.ref f] [Value.ref f] from .cons rfl .nil) rfl (fun hr' => by
    obtain ⟨t', ht', hq'⟩ := hG f c' s1 H1 Q (fun E H' Q' => t E σ H' Q') (fun W pn xe E p1 p2 tk hW => LamX.pe_act I1 L hf hfn hfr (hbind _ _ _ _ _) tk hW hr' (fun A outer s H hr2 => hbody A outer s H E f c' hr2) hNg hva hd hcd) hco hT
    exact ⟨t', ht'.nox, hq'⟩)
  refine wpAny_call (codeAny_mono rc fun r s2 hq => ?_)
  cases r with
  | error e => exact (show False from hq).elim
  | ok fl =>
    cases fl with
    | next => exact (show False from hq).elim
    | brk => exact (show False from hq).elim
    | cont => exact (show False from hq).elim
    | ret u => exact I1.after hq
theorem pe_or2 {X : Cx} {e : Expr} {t u : TE} (h1 : PE X e t) (h2 : PE X e u) : PE X e (fun σ H Q => t σ H Q ∨ u σ H Q) := ⟨fun pins s σ H Q I h => h.elim (fun h => h1.run pins s σ H Q I h) (fun h => h2.run pins s σ H Q I h)⟩
end
end WB
namespace WB
open PySem PySem.Spec PyProof.Rows L2
/-! ### objects: fields, methods, new ones -/
section
variable {X : Cx} (K : PySem.W.Frag) {e o value : Expr} {f : Str} {pos pos' tpos : Pos} {ta tv : TE} {op : Operator} {rd : V → V → Hp → VK → Prop}
theorem pe_fldK (h : X.K = K) (he : PE X e ta) (hb : attributeBase e f X.env (eval e X.env) = eval e X.env := by rfl) : PE X (.Attribute e f pos) (tFld K ta f) := by subst h; exact pe_fld he hb
theorem ps_fldK (h : X.K = K) (ho : PE X o ta) (hv : PE X value tv) (hs : swapsWith value (some (.Attribute o f pos')) pos.line X.env = pure false := by rfl) : PS X (.Assign [.Attribute o f pos'] value pos) (sFld K ta tv f) := by subst h; exact ps_fld ho hv hs
theorem ps_fldaugK (h : X.K = K) (ho : PE X o ta) (hv : PE X value tv) (hop : InOp X op rd) : PS X (.AugAssign (.Attribute o f tpos) op value pos) (sFldAug K ta tv rd f) := by subst h; exact ps_fldaug ho hv hop
def rTupK (K : PySem.W.Frag) : List V → Hp → VK → Prop := fun xs H Q => ∃ p ys, xs = [.ref p] ∧ ((SqL K H p ys ∧ ∀ l, H l = none → Q (.ref l) (upd H l (.tup ys))) ∨ (SqT K H p ys ∧ Q (.ref p) H))
theorem call_tupleK (h : X.K = K) : CallR X (.type "tuple") (rTupK K) := by subst h; exact call_tuple_of
end
/-- a method of the class at C -/
def CalM (CX : CXT) (P : Program) (w : World) (K : PySem.W.Frag) (mg : Str → Option Value) (base : Heap) (k : Nat) (C : Addr) (m : Str) (ps : List Str) (sp : Sp) : Prop :=
  ∃ (f : Addr) (fd : FuncData), Cls K C ∧ Meth K C m f ∧ FnOk P w K mg base CX k f fd ps sp ∧ Binds K fd ps []
theorem CalM.mono {CX : CXT} {P : Program} {w : World} {K : PySem.W.Frag} {mg : Str → Option Value} {base : Heap} {j k : Nat} {C : Addr} {m : Str} {ps : List Str} {sp : Sp} (c : CalM CX P w K mg base j C m ps sp) (h : j ≤ k) : CalM CX P w K mg base k C m ps sp := by
  obtain ⟨f, fd, a, b, d, e⟩ := c
  exact ⟨f, fd, a, b, d.mono h, e⟩
/-- new things of the class at C -/
def CalN (P : Program) (w : World) (K : PySem.W.Frag) (mg : Str → Option Value) (base : Heap) (k : Nat) (nm : Str) (C : Addr) (ps : List Str) (sp : Sp) : Prop :=
  ∃ (f : Addr) (fd : FuncData), Mk K C f ∧ FnOk P w K mg base CX0 k f fd ps sp ∧ mg nm = some (.ref C) ∧ Binds K fd ps []
theorem CalN.mono {P : Program} {w : World} {K : PySem.W.Frag} {mg : Str → Option Value} {base : Heap} {j k : Nat} {nm : Str} {C : Addr} {ps : List Str} {sp : Sp} (c : CalN P w K mg base j nm C ps sp) (h : j ≤ k) : CalN P w K mg base k nm C ps sp := by
  obtain ⟨f, fd, a, b, d, e⟩ := c
  exact ⟨f, fd, a, b.mono h, d, e⟩
section
variable {X : Cx} {k : Nat} {C : Addr} {m nm : Str} {ps : List Str} {sp : Sp} {E : XK} {pos apos p : Pos} {e o : Expr} {es : List Expr} {ta : TE} {t : TA} {pl : Sem Bool}
theorem pe_methC (ho : PE X o ta) (c : CalM CX0 X.prog X.w X.K X.mg X.base k C m ps sp) (hr : Room k X.A) (ha : PA X (e :: es) t) (hs : starEach (e :: es) X.env = (false, eval e X.env) :: starEach es X.env := by rfl) (hpl : (backTo pos (starEach es X.env)).any (·.1) = false := by rfl)
    (hc : eval (.Call (.Attribute o m apos) (e :: es) [] pos) X.env = (do
      let ov ← eval o X.env
      standAt apos.atName
      let (f, first) ← holding [ov] (getMethod ov m pl)
      callWith pos f first (backTo pos (starEach (e :: es) X.env)) (backToKw pos (keywordEach [] X.env))) := by rfl) : PE X (.Call (.Attribute o m apos) (e :: es) [] pos) (tMeth C m sp [] E0 ta t) := by
  obtain ⟨f, fd, a, b, d, g⟩ := c
  exact pe_meth ho a b d hr g .nil pass0 ha hs hpl hc
theorem pe_methC0 (ho : PE X o ta) (c : CalM CX0 X.prog X.w X.K X.mg X.base k C m ps sp) (hr : Room k X.A)
    (hc : eval (.Call (.Attribute o m apos) [] [] pos) X.env = (do
      let ov ← eval o X.env
      standAt apos.atName
      let (f, first) ← holding [ov] (getMethod ov m pl)
      callWith pos f first (backTo pos (starEach [] X.env)) (backToKw pos (keywordEach [] X.env))) := by rfl) : PE X (.Call (.Attribute o m apos) [] [] pos) (tMeth C m sp [] E0 ta tNil) := by
  obtain ⟨f, fd, a, b, d, g⟩ := c
  exact pe_meth0 ho a b d hr g .nil pass0 hc
/-- a method that may let an exception out, where it lets out none -/
theorem pe_methF (ho : PE X o ta) (c : CalM (L2.CX X.prog X.w) X.prog X.w X.K X.mg X.base k C m ps sp) (hr : Room k X.A) (ha : PA X (e :: es) t) (hs : starEach (e :: es) X.env = (false, eval e X.env) :: starEach es X.env := by rfl) (hpl : (backTo pos (starEach es X.env)).any (·.1) = false := by rfl)
    (hc : eval (.Call (.Attribute o m apos) (e :: es) [] pos) X.env = (do
      let ov ← eval o X.env
      standAt apos.atName
      let (f, first) ← holding [ov] (getMethod ov m pl)
      callWith pos f first (backTo pos (starEach (e :: es) X.env)) (backToKw pos (keywordEach [] X.env))) := by rfl) : PE X (.Call (.Attribute o m apos) (e :: es) [] pos) (tMeth C m sp [] E0 ta t) := by
  obtain ⟨f, fd, a, b, d, g⟩ := c
  exact pe_meth ho a b d hr g .nil passL ha hs hpl hc
theorem pe_methP (ho : PE X o ta) (c : CalM (L2.CX X.prog X.w) X.prog X.w X.K X.mg X.base k C m ps sp) (hr : Room k X.A) (hx : Passes (L2.CX X.prog X.w) X E) (ha : PA X (e :: es) t) (hs : starEach (e :: es) X.env = (false, eval e X.env) :: starEach es X.env := by rfl) (hpl : (backTo pos (starEach es X.env)).any (·.1) = false := by rfl)
    (hc : eval (.Call (.Attribute o m apos) (e :: es) [] pos) X.env = (do
      let ov ← eval o X.env
      standAt apos.atName
      let (f, first) ← holding [ov] (getMethod ov m pl)
      callWith pos f first (backTo pos (starEach (e :: es) X.env)) (backToKw pos (keywordEach [] X.env))) := by rfl) : PE X (.Call (.Attribute o m apos) (e :: es) [] pos) (tMeth C m sp [] E ta t) := by
  obtain ⟨f, fd, a, b, d, g⟩ := c
  exact pe_meth ho a b d hr g .nil hx ha hs hpl hc
theorem pe_makeC0 (c : CalN X.prog X.w X.K X.mg X.base k nm C ps sp) (hr : Room (k + 1) X.A) (hg : Gl X nm) (hdb : (nm == ("__debug__" : Str)) = false := by decide) : PE X (.Call (.Name nm p) [] [] pos) (tMake C sp [] E0 tNil) := by
  obtain ⟨f, fd, a, b, d, g⟩ := c
  exact pe_make0 a b hr hg d g .nil pass0 hdb
end
/-! ### heaps that keep their lists -/
/-- lists, tuples and what is held still stay -/
def Lk (H H' : Hp) : Prop := ∀ a o, H a = some o → (∃ xs, o = .lst xs) ∨ (∃ xs, o = .tup xs) ∨ (∃ u v, o = .frz u v) → H' a = some o
section
variable {K : PySem.W.Frag}
theorem lk_l {H H' : Hp} {a : Addr} {xs : List V} (e : Lk H H') (h : SqL K H a xs) : SqL K H' a xs := by
  rcases h with (h | ⟨o, h⟩) | h
  · exact .inl (.inl (e _ _ h (.inl ⟨_, rfl⟩)))
  · exact .inl (.inr ⟨o, e _ _ h (.inr (.inr ⟨_, _, rfl⟩))⟩)
  · exact .inr h
theorem lk_t {H H' : Hp} {a : Addr} {xs : List V} (e : Lk H H') (h : SqT K H a xs) : SqT K H' a xs := by
  rcases h with (h | ⟨o, h⟩) | h
  · exact .inl (.inl (e _ _ h (.inr (.inl ⟨_, rfl⟩))))
  · exact .inl (.inr ⟨o, e _ _ h (.inr (.inr ⟨_, _, rfl⟩))⟩)
  · exact .inr h
mutual
theorem dp_lk {H H' : Hp} (e : Lk H H') : ∀ {d : PyData} {x : V}, Dp K H x d → Dp K H' x d
  | _, _, .non => .non
  | _, _, .bl b => .bl b
  | _, _, .int i => .int i
  | _, _, .str s => .str s
  | _, _, .lst hs ha => .lst (lk_l e hs) (dpa_lk e ha)
  | _, _, .tup hs ha => .tup (lk_t e hs) (dpa_lk e ha)
theorem dpa_lk {H H' : Hp} (e : Lk H H') : ∀ {ds : List PyData} {xs : List V}, DpAll K H xs ds → DpAll K H' xs ds
  | _, _, .nil => .nil
  | _, _, .cons h t => .cons (dp_lk e h) (dpa_lk e t)
end
theorem lk_mv {b : Addr} {H H' : Hp} (m : Mv b H H') (h : ∀ o, H b = some o → ¬ ((∃ xs, o = .lst xs) ∨ (∃ xs, o = .tup xs) ∨ (∃ u v, o = .frz u v))) : Lk H H' := fun a o e k => m a o (fun z => by subst z; exact h o e k) e
theorem lk_same {H H' : Hp} (s : Same H H') : Lk H H' := fun a o e _ => s a o e
end
end WB
namespace WB
open PySem PySem.Spec PyProof.Rows L2
/-! ### things that stand apart in the heap -/
/-- all but what stands at F stays, and nothing vanishes -/
structure MvF (F : List Addr) (H H' : Hp) : Prop where
  kp : ∀ a o, a ∉ F → H a = some o → H' a = some o
  al : ∀ a, H' a = none → H a = none
theorem al_same {H H' : Hp} (s : Same H H') : ∀ a, H' a = none → H a = none := fun _ h => s.free h
theorem al_upd {H H' : Hp} {p : Addr} {o : HO} (s : ∀ a, H' a = none → H a = none) : ∀ a, upd H' p o a = none → H a = none := fun a h => by
  by_cases z : a = p
  · rw [z, upd_same] at h
    cases h
  · rw [upd_ne z] at h
    exact s a h
theorem al_mv {H H' : Hp} {p : Addr} {o : HO} (m : Mv p H H') (e : H' p = some o) : ∀ a, H' a = none → H a = none := fun a h => by
  by_cases z : a = p
  · rw [z, e] at h
    cases h
  · exact m.none z h
section
variable {F : List Addr} {H H' H1 H2 : Hp}
theorem MvF.refl (F : List Addr) (H : Hp) : MvF F H H := ⟨fun _ _ _ h => h, fun _ h => h⟩
theorem MvF.of (s : Same H H') : MvF F H H' := ⟨fun a o _ h => s a o h, al_same s⟩
theorem MvF.mv {p : Addr} {o : HO} (m : Mv p H H') (e : H' p = some o) (hp : p ∈ F) : MvF F H H' := ⟨fun a u n h => m a u (fun z => n (z ▸ hp)) h, al_mv m e⟩
theorem MvF.trans (m : MvF F H H1) (m' : MvF F H1 H2) : MvF F H H2 := ⟨fun a o n h => m'.kp a o n (m.kp a o n h), fun a h => m.al a (m'.al a h)⟩
theorem MvF.upd {p : Addr} {o : HO} (m : MvF F H H') (hp : p ∈ F) : MvF F H (L2.upd H' p o) := ⟨fun a u n h => by rw [upd_ne (fun z : a = p => n (by rw [z]; exact hp))]; exact m.kp a u n h, al_upd m.al⟩
theorem MvF.wide {G : List Addr} (m : MvF F H H') (h : ∀ a ∈ F, a ∈ G) : MvF G H H' := ⟨fun a o n e => m.kp a o (fun z => n (h a z)) e, m.al⟩
/-- where the second one's places are the first one's, or new -/
theorem MvF.trans2 {G : List Addr} (m : MvF F H H1) (m' : MvF G H1 H2) (hg : ∀ a ∈ G, a ∈ F ∨ H a = none) : MvF F H H2 := by
  refine ⟨fun a o n e => m'.kp a o (fun z => ?_) (m.kp a o n e), fun a h => m.al a (m'.al a h)⟩
  rcases hg a z with y | y
  · exact n y
  · rw [y] at e
    cases e
theorem MvF.same (m : MvF F H H') (s : Same H' H1) : MvF F H H1 := m.trans (.of s)
theorem MvF.new (m : MvF F H H') {p : Addr} {o : HO} (n : H' p = none) : MvF F H (L2.upd H' p o) := m.same (same_upd n)
theorem MvF.free (m : MvF F H H') {p : Addr} (h : H' p = none) : H p = none := m.al p h
theorem MvF.toSame (m : MvF [] H H') : Same H H' := fun a o h => m.kp a o List.not_mem_nil h
end
/-- no table of code, no thing of the machine's own -/
def plain : HO → Prop
  | .tbl _ => False
  | .ext _ => False
  | _ => True
structure Th where
  ft : List Addr
  P : Hp → Prop
  loc : ∀ H H' : Hp, (∀ a ∈ ft, ∀ o, H a = some o → H' a = some o) → P H → P H'
  al : ∀ H, P H → ∀ a ∈ ft, ∃ o, H a = some o ∧ plain o
/-- these things stand apart, and the tables of code are as they were -/
structure Hs (T : List (Addr × Str)) (Ts : List Th) (H : Hp) : Prop where
  all : ∀ (i : Nat) (T : Th), Ts[i]? = some T → T.P H
  sep : ∀ (i j : Nat) (x y : Th), i ≠ j → Ts[i]? = some x → Ts[j]? = some y → ∀ a ∈ x.ft, a ∉ y.ft
  tab : LamX.Tabs T H
theorem Th.live (T : Th) {H : Hp} (h : T.P H) {a : Addr} (ha : a ∈ T.ft) : H a ≠ none := by
  obtain ⟨o, e, _⟩ := T.al H h a ha
  rw [e]
  exact fun z => nomatch z
theorem tabs_keep {T : List (Addr × Str)} {H H' : Hp} (t : LamX.Tabs T H) (h : ∀ a o, H a = some o → ¬ plain o → H' a = some o) : LamX.Tabs T H' := fun p hp => by
  obtain ⟨ps, h1, h2, h3⟩ := t p hp
  refine ⟨ps, h _ _ h1 (fun z => z), h2, fun pos cv hc => ?_⟩
  obtain ⟨c, e1, e2⟩ := h3 pos cv hc
  exact ⟨c, e1, h _ _ e2 (fun z => z)⟩
section
variable {T0 : List (Addr × Str)} {Ts Ts' : List Th} {T T' N : Th} {H H' : Hp}
theorem Hs.nil (t : LamX.Tabs T0 H) : Hs T0 [] H := ⟨fun i T h => (by cases h), fun i j x y _ h => (by cases h), t⟩
theorem Hs.nil0 : Hs [] [] H := .nil (fun p hp => absurd hp List.not_mem_nil)
theorem Hs.get (h : Hs T0 Ts H) (i : Nat) (hi : Ts[i]? = some T) : T.P H := h.all i T hi
theorem Hs.same (h : Hs T0 Ts H) (s : Same H H') : Hs T0 Ts H' := ⟨fun i T hi => T.loc H H' (fun a _ o e => s a o e) (h.all i T hi), h.sep, h.tab.ext s⟩
/-- a lambda was made -/
theorem Hs.extN (h : Hs T0 Ts H) (e : LamX.ExtN H H') (t : LamX.Tabs T0 H') : Hs T0 Ts H' := ⟨fun i T hi => T.loc H H' (fun a ha o q => e a o q (fun ps z => by
  obtain ⟨o', e1, e2⟩ := T.al H (h.all i T hi) a ha
  rw [e1] at q
  cases q
  rw [z] at e2
  exact e2)) (h.all i T hi), h.sep, t⟩
theorem Hs.ne (h : Hs T0 Ts H) (i j : Nat) {x y : Th} (hi : Ts[i]? = some x) (hj : Ts[j]? = some y) {a b : Addr} (ha : a ∈ x.ft) (hb : b ∈ y.ft) (n : i ≠ j := by decide) : a ≠ b := fun z => h.sep i j x y n hi hj a ha (z ▸ hb)
theorem Hs.keep (h : Hs T0 Ts H) {i j : Nat} {x : Th} {F : List Addr} (hi : Ts[i]? = some T) (hj : Ts[j]? = some x) (n : j ≠ i) (m : MvF F H H') (hF : ∀ a ∈ F, a ∈ T.ft ∨ H a = none) : x.P H' := by
  refine x.loc H H' (fun a ha o e => m.kp a o (fun z => ?_) e) (h.all j x hj)
  rcases hF a z with y | y
  · exact h.sep j i x T n hj hi a ha y
  · rw [y] at e
    cases e
theorem Hs.op {F : List Addr} (h : Hs T0 Ts H) (i : Nat) (hi : Ts[i]? = some T) (m : MvF F H H') (hF : ∀ a ∈ F, a ∈ T.ft ∨ H a = none) (hp : T'.P H') (hf : ∀ a ∈ T'.ft, a ∈ T.ft ∨ H a = none) : Hs T0 (Ts.set i T') H' := by
  have hil : i < Ts.length := (List.getElem?_eq_some_iff.mp hi).1
  have new : ∀ (j : Nat) (y : Th), j ≠ i → Ts[j]? = some y → ∀ a ∈ T'.ft, a ∉ y.ft := fun j y n hj a ha z => by
    rcases hf a ha with q | q
    · exact h.sep i j T y n.symm hi hj a q z
    · exact y.live (h.all j y hj) z q
  refine ⟨fun j x hj => ?_, fun j k x y n hj hk => ?_, tabs_keep h.tab fun a o e np => m.kp a o (fun z => ?_) e⟩
  · rw [List.getElem?_set] at hj
    by_cases z : i = j
    · rw [if_pos z, if_pos (z ▸ hil)] at hj
      cases hj
      exact hp
    · rw [if_neg z] at hj
      exact h.keep hi hj (fun q => z q.symm) m hF
  · rw [List.getElem?_set] at hj hk
    by_cases z : i = j
    · rw [if_pos z, if_pos (z ▸ hil)] at hj
      rw [if_neg (fun q => n (z.symm.trans q))] at hk
      cases hj
      exact new k y (fun q => n (z.symm.trans q.symm)) hk
    · rw [if_neg z] at hj
      by_cases z2 : i = k
      · rw [if_pos z2, if_pos (z2 ▸ hil)] at hk
        cases hk
        exact fun a ha hb => new j x (fun q => z q.symm) hj a hb ha
      · rw [if_neg z2] at hk
        exact h.sep j k x y n hj hk
  · rcases hF a z with y | y
    · obtain ⟨o', e1, e2⟩ := T.al H (h.all i T hi) a y
      rw [e1] at e
      cases e
      exact np e2
    · rw [y] at e
      cases e
theorem Hs.cons (h : Hs T0 Ts H) (hp : T.P H) (hf : ∀ (j : Nat) (y : Th), Ts[j]? = some y → ∀ a ∈ T.ft, a ∉ y.ft) : Hs T0 (T :: Ts) H := by
  refine ⟨fun j x hj => ?_, fun j k x y n hj hk => ?_, h.tab⟩
  · cases j with
    | zero => cases hj; exact hp
    | succ j => exact h.all j x hj
  · cases j with
    | zero =>
      cases hj
      cases k with
      | zero => exact absurd rfl n
      | succ k => exact hf k y hk
    | succ j =>
      cases k with
      | zero =>
        cases hk
        exact fun a ha hb => hf j x hj a hb ha
      | succ k => exact h.sep j k x y (fun q => n (congrArg (· + 1) q)) hj hk
theorem Hs.new (h : Hs T0 Ts H) (s : Same H H') (hp : T.P H') (hf : ∀ a ∈ T.ft, H a = none) : Hs T0 (T :: Ts) H' :=
  (h.same s).cons hp fun j y hj a ha hb => y.live (h.all j y hj) hb (hf a ha)
/-- a thing changes, and a new one comes -/
theorem Hs.opNew {F : List Addr} (h : Hs T0 Ts H) (i : Nat) (hi : Ts[i]? = some T) (m : MvF F H H') (hF : ∀ a ∈ F, a ∈ T.ft ∨ H a = none) (hp : T'.P H') (hf : ∀ a ∈ T'.ft, a ∈ T.ft ∨ H a = none) (hn : N.P H') (hnf : ∀ a ∈ N.ft, H a = none ∧ a ∉ T'.ft) : Hs T0 (N :: Ts.set i T') H' := by
  refine (h.op i hi m hF hp hf).cons hn fun j y hj a ha hb => ?_
  rw [List.getElem?_set] at hj
  by_cases z : i = j
  · rw [if_pos z, if_pos (z ▸ (List.getElem?_eq_some_iff.mp hi).1)] at hj
    cases hj
    exact (hnf a ha).2 hb
  · rw [if_neg z] at hj
    exact y.live (h.all j y hj) hb (hnf a ha).1
/-- these places of the list, in this order -/
def pickTs (Ts : List Th) : List Nat → List Th
  | [] => []
  | i :: r => match Ts[i]? with
    | some x => x :: pickTs Ts r
    | none => pickTs Ts r
theorem mem_pick : ∀ {is : List Nat} {k : Nat} {x : Th}, (pickTs Ts is)[k]? = some x → ∃ i ∈ is, Ts[i]? = some x
  | [], k, x, h => by cases h
  | i :: r, k, x, h => by
    unfold pickTs at h
    cases e : Ts[i]? with
    | none =>
      rw [e] at h
      obtain ⟨j, hj, q⟩ := mem_pick h
      exact ⟨j, .tail _ hj, q⟩
    | some y =>
      rw [e] at h
      cases k with
      | zero => cases h; exact ⟨i, .head _, e⟩
      | succ k =>
        obtain ⟨j, hj, q⟩ := mem_pick (k := k) h
        exact ⟨j, .tail _ hj, q⟩
theorem Hs.sel (h : Hs T0 Ts H) : ∀ (is : List Nat), is.Nodup → Hs T0 (pickTs Ts is) H
  | [], _ => .nil h.tab
  | i :: r, hn => by
    have hn := List.nodup_cons.mp hn
    have t := h.sel r hn.2
    unfold pickTs
    cases e : Ts[i]? with
    | none => exact t
    | some x =>
      refine t.cons (h.all i x e) fun j y hj => ?_
      obtain ⟨k, hk, q⟩ := mem_pick hj
      exact h.sep i k x y (fun z => hn.1 (z ▸ hk)) e q
theorem Hs.tail {x : Th} (h : Hs T0 (x :: Ts) H) : Hs T0 Ts H := ⟨fun i T hi => h.all (i + 1) T hi, fun i j x y n hi hj => h.sep (i + 1) (j + 1) x y (by omega) hi hj, h.tab⟩
theorem Hs.head {x : Th} (h : Hs T0 (x :: Ts) H) : x.P H := h.all 0 x rfl
theorem Hs.apart {x y : Th} (h : Hs T0 (x :: Ts) H) (hy : y ∈ Ts) : ∀ a ∈ x.ft, a ∉ y.ft := by
  obtain ⟨j, hj⟩ := List.getElem?_of_mem hy
  exact h.sep 0 (j + 1) x y (by omega) rfl hj
theorem Hs.swap {x y : Th} (h : Hs T0 (x :: y :: Ts) H) : Hs T0 (y :: x :: Ts) H :=
  (h.tail.tail.cons h.head fun j z hj => h.apart (.tail _ (List.mem_of_getElem? hj))).cons h.tail.head fun j z hj a ha hb => by
    rcases List.mem_cons.mp (List.mem_of_getElem? hj) with rfl | hm
    · exact h.apart (.head _) a hb ha
    · exact h.tail.apart hm a ha hb
theorem Hs.perm (p : Ts.Perm Ts') : ∀ {H : Hp}, Hs T0 Ts H → Hs T0 Ts' H := by
  induction p with
  | nil => exact fun h => h
  | cons x q ih => exact fun h => (ih h.tail).cons h.head fun j y hj => h.apart (q.mem_iff.mpr (List.mem_of_getElem? hj))
  | swap x y l => exact fun h => h.swap
  | trans _ _ ih1 ih2 => exact fun h => ih2 (ih1 h)
/-- two things seen as one -/
theorem Hs.merge {A B C : Th} (h : Hs T0 (A :: B :: Ts) H) (hp : C.P H) (hf : ∀ a ∈ C.ft, a ∈ A.ft ∨ a ∈ B.ft) : Hs T0 (C :: Ts) H :=
  h.tail.tail.cons hp fun j y hj a ha hb => (hf a ha).elim (fun z => h.apart (.tail _ (List.mem_of_getElem? hj)) a z hb) (fun z => h.tail.apart (List.mem_of_getElem? hj) a z hb)
theorem Hs.drop1 {x y : Th} (h : Hs T0 (x :: y :: Ts) H) : Hs T0 (x :: Ts) H := h.swap.tail
theorem Hs.drop2 {x y z : Th} (h : Hs T0 (x :: y :: z :: Ts) H) : Hs T0 (x :: y :: Ts) H := h.tail.drop1.cons h.head fun j u hj => by
  rcases List.mem_cons.mp (List.mem_of_getElem? hj) with rfl | hm
  · exact h.apart (.head _)
  · exact h.apart (.tail _ (.tail _ hm))
theorem Hs.drop3 {x y z u : Th} (h : Hs T0 (x :: y :: z :: u :: Ts) H) : Hs T0 (x :: y :: z :: Ts) H := h.tail.drop2.cons h.head fun j v hj => by
  rcases List.mem_cons.mp (List.mem_of_getElem? hj) with rfl | hm
  · exact h.apart (.head _)
  rcases List.mem_cons.mp hm with rfl | hm
  · exact h.apart (.tail _ (.head _))
  · exact h.apart (.tail _ (.tail _ (.tail _ hm)))
end
/-! ### the commonest things -/
/-- what stands at a -/
def tO (a : Addr) (o : HO) : Th := ⟨[a], fun H => H a = some o ∧ plain o, fun H H' k h => ⟨k a (.head _) o h.1, h.2⟩, fun H h b hb => by rw [List.mem_singleton.mp hb]; exact ⟨o, h⟩⟩
abbrev tL (a : Addr) (xs : List V) : Th := tO a (.lst xs)
theorem Bag.al {b : Addr × Addr} {H : Hp} (g : Bag b H) : H b.1 ≠ none ∧ H b.2 ≠ none := by
  obtain ⟨ns, i, r, x, c, h1, h2, _⟩ := g
  exact ⟨(by rw [h1]; exact fun z => nomatch z), (by rw [h2]; exact fun z => nomatch z)⟩
def tB (b : Addr × Addr) : Th := ⟨[b.1, b.2], Bag b, fun H H' k h => by
  obtain ⟨ns, i, r, x, c, h1, h2, h3⟩ := h
  exact ⟨ns, i, r, x, c, k _ (.head _) _ h1, k _ (.tail _ (.head _)) _ h2, h3⟩, fun H h a ha => by
  obtain ⟨ns, i, r, x, c, h1, h2, h3⟩ := h
  rcases List.mem_cons.mp ha with rfl | ha
  · exact ⟨_, h1, trivial⟩
  · rw [List.mem_singleton.mp ha]
    exact ⟨_, h2, trivial⟩⟩
theorem in1 {a p : Addr} (h : a ∈ [p]) : a = p := List.mem_singleton.mp h
section
variable {T0 : List (Addr × Str)} {b : Addr × Addr} {Ts : List Th} {H H' : Hp} {p : Addr} {o o' : HO}
theorem Hs.bag (h : Hs T0 (tB b :: Ts) H) : Bag b H := h.get 0 rfl
theorem mvf_bag (m : Mv b.1 H H') (g : Bag b H') : MvF [b.1, b.2] H H' := by
  obtain ⟨ns, i, r, x, c, h1, h2, h3⟩ := g
  exact .mv m h1 (.head _)
theorem Hs.mv (h : Hs T0 (tB b :: Ts) H) (m : Mv b.1 H H') (g : Bag b H') : Hs T0 (tB b :: Ts) H' := h.op (T := tB b) (T' := tB b) 0 rfl (mvf_bag m g) (fun a ha => .inl ha) g (fun a ha => .inl ha)
/-- a draw that tells a new thing -/
theorem Hs.newM (h : Hs T0 (tB b :: Ts) H) (m : Mv b.1 H H') (g : Bag b H') (n : H p = none) (e : H' p = some o) (pl : plain o := by exact trivial) : Hs T0 (tB b :: tO p o :: Ts) H' := by
  have h2 : Hs T0 (tO p o :: tB b :: Ts) H' := (h.opNew (T := tB b) (T' := tB b) (N := tO p o) 0 rfl (mvf_bag m g) (fun a ha => .inl ha) g (fun a ha => .inl ha) ⟨e, pl⟩ (fun a ha => by
    rw [in1 ha]
    refine ⟨n, fun z => ?_⟩
    rcases List.mem_cons.mp z with z | z
    · exact (h.bag.al.1) (z ▸ n)
    · exact (h.bag.al.2) (in1 z ▸ n)))
  exact h2.swap
/-- a new thing at the head -/
theorem Hs.newH (h : Hs T0 Ts H) (s : Same H H') (n : H p = none) (e : H' p = some o) (pl : plain o := by exact trivial) : Hs T0 (tO p o :: Ts) H' := h.new (T := tO p o) s ⟨e, pl⟩ (fun a ha => by rw [in1 ha]; exact n)
theorem Hs.newHU (h : Hs T0 Ts H) (n : H p = none) (pl : plain o := by exact trivial) : Hs T0 (tO p o :: Ts) (upd H p o) := h.newH (same_upd n) n upd_same pl
/-- a new thing, put behind the bag -/
theorem Hs.newB (h : Hs T0 (tB b :: Ts) H) (s : Same H H') (n : H p = none) (e : H' p = some o) (pl : plain o := by exact trivial) : Hs T0 (tB b :: tO p o :: Ts) H' := (h.newH s n e pl).swap
theorem Hs.newU (h : Hs T0 (tB b :: Ts) H) (n : H p = none) (pl : plain o := by exact trivial) : Hs T0 (tB b :: tO p o :: Ts) (upd H p o) := h.newB (same_upd n) n upd_same pl
theorem Hs.put (h : Hs T0 Ts H) (i : Nat) (hi : Ts[i]? = some (tO p o)) (pl : plain o' := by exact trivial) : Hs T0 (Ts.set i (tO p o')) (upd H p o') :=
  h.op i hi (F := [p]) ((MvF.refl [p] H).upd (.head _)) (fun a ha => .inl ha) ⟨upd_same, pl⟩ (fun a ha => .inl ha)
theorem Hs.at (h : Hs T0 Ts H) (i : Nat) (hi : Ts[i]? = some (tO p o)) : H p = some o := (h.get i hi).1
end
/-! ### groups: several things seen as one -/
theorem sep_flat {Ts : List Th} {H : Hp} (h : Hs [] Ts H) : ∀ a ∈ Ts.flatMap (·.ft), ∃ o, H a = some o ∧ plain o := fun a ha => by
  obtain ⟨T, hT, ha⟩ := List.mem_flatMap.mp ha
  obtain ⟨i, hi⟩ := List.getElem?_of_mem hT
  exact T.al H (h.all i T hi) a ha
def tG (Ts : List Th) : Th := ⟨Ts.flatMap (·.ft), fun H => Hs [] Ts H, fun H H' k h => ⟨fun i T hi => T.loc H H' (fun a ha => k a (List.mem_flatMap.mpr ⟨T, List.mem_of_getElem? hi, ha⟩)) (h.all i T hi), h.sep, fun p hp => absurd hp List.not_mem_nil⟩, fun H h a ha => sep_flat h a ha⟩
section
variable {T0 : List (Addr × Str)} {Ts Gs : List Th} {H : Hp}
theorem Hs.tabs0 (h : Hs T0 Ts H) : Hs [] Ts H := ⟨h.all, h.sep, fun p hp => absurd hp List.not_mem_nil⟩
theorem Hs.app : ∀ {As : List Th}, Hs [] As H → Hs T0 Ts H → (∀ x ∈ As, ∀ y ∈ Ts, ∀ a ∈ x.ft, a ∉ y.ft) → Hs T0 (As ++ Ts) H
  | [], _, h, _ => h
  | A :: As, g, h, d => (Hs.app g.tail h (fun x hx => d x (.tail _ hx))).cons g.head fun j y hj a ha hb => by
    rcases List.mem_append.mp (List.mem_of_getElem? hj) with hm | hm
    · exact g.apart hm a ha hb
    · exact d A (.head _) y hm a ha hb
theorem Hs.left : ∀ {As : List Th}, Hs T0 (As ++ Ts) H → Hs [] As H
  | [], _ => .nil (fun p hp => absurd hp List.not_mem_nil)
  | A :: As, h => (Hs.left (As := As) h.tail).cons h.head fun j y hj => h.apart (List.mem_append_left _ (List.mem_of_getElem? hj))
theorem Hs.right : ∀ {As : List Th}, Hs T0 (As ++ Ts) H → Hs T0 Ts H
  | [], h => h
  | _ :: As, h => Hs.right (As := As) h.tail
theorem Hs.cross : ∀ {As : List Th}, Hs T0 (As ++ Ts) H → ∀ x ∈ As, ∀ y ∈ Ts, ∀ a ∈ x.ft, a ∉ y.ft
  | A :: As, h, x, hx, y, hy => by
    rcases List.mem_cons.mp hx with rfl | hx
    · exact h.apart (List.mem_append_right _ hy)
    · exact Hs.cross (As := As) h.tail x hx y hy
theorem Hs.ungroup (h : Hs T0 (tG Ts :: Gs) H) : Hs T0 (Ts ++ Gs) H := Hs.app h.head h.tail (fun x hx y hy a ha hb => h.apart hy a (List.mem_flatMap.mpr ⟨x, hx, ha⟩) hb)
theorem Hs.group (h : Hs T0 (Ts ++ Gs) H) : Hs T0 (tG Ts :: Gs) H := h.right.cons h.left fun j y hj a ha hb => by
  obtain ⟨x, hx, ha⟩ := List.mem_flatMap.mp ha
  exact h.cross x hx y (List.mem_of_getElem? hj) a ha hb
end
section
variable {α : Type} {T0 : List (Addr × Str)} {As : List Th} {Y : List α} {f : α → Th} {w : Nat} {y y' : α} {H : Hp}
theorem perm_at : ∀ {Y : List α} {w : Nat} {y : α}, Y[w]? = some y → (y :: Y.eraseIdx w).Perm Y
  | x :: Y, 0, y, h => by cases h; exact .refl _
  | x :: Y, w + 1, y, h => (List.Perm.swap x y _).trans (.cons x (perm_at (Y := Y) (w := w) h))
theorem erase_set : ∀ (Y : List α) (w : Nat) (y : α), (Y.set w y).eraseIdx w = Y.eraseIdx w
  | [], _, _ => rfl
  | x :: Y, 0, y => rfl
  | x :: Y, w + 1, y => congrArg (x :: ·) (erase_set Y w y)
/-- the w-th one to the head -/
theorem Hs.front (h : Hs T0 (As ++ Y.map f) H) (hy : Y[w]? = some y) : Hs T0 (f y :: (As ++ (Y.eraseIdx w).map f)) H := by
  refine h.perm (List.Perm.trans ?_ List.perm_middle)
  exact .append_left As ((perm_at hy).map f).symm
theorem Hs.back (h : Hs T0 (f y' :: (As ++ (Y.eraseIdx w).map f)) H) (hw : w < Y.length) : Hs T0 (As ++ (Y.set w y').map f) H := by
  have hy : (Y.set w y')[w]? = some y' := by rw [List.getElem?_set, if_pos rfl, if_pos hw]
  have := perm_at hy
  rw [erase_set] at this
  refine h.perm (List.Perm.trans List.perm_middle.symm ?_)
  exact .append_left As (this.map f)
end
end WB
namespace WB
open PySem PySem.Spec PyProof.Rows L2
section
variable {X : Cx} (K : PySem.W.Frag)
theorem cr_sumK (h : X.K = K) (hc : X.calm = true) : CallR X (.builtin "sum") (rSum K) := by subst h; exact cr_sum hc
theorem cr_minK (h : X.K = K) (hc : X.calm = true) : CallR X (.builtin "min") (rMin K) := by subst h; exact cr_min hc
theorem cr_maxK (h : X.K = K) (hc : X.calm = true) : CallR X (.builtin "max") (rMax K) := by subst h; exact cr_max hc
end
/-! ### while, by an invariant and a measure -/
def wN (Pv : L2.St → Hp → Prop) (μ : L2.St → Hp → Nat) (m : Nat) : L2.St → Hp → Prop := fun σ H => Pv σ H ∧ μ σ H < m
theorem wN_ok {Pv : L2.St → Hp → Prop} {μ : L2.St → Hp → Nat} {m : Nat} : ∀ σ' H', wN Pv μ m σ' H' → ∃ m', m' < m ∧ m' = μ σ' H' ∧ Pv σ' H' := fun _ _ h => ⟨_, h.2, rfl, h.1⟩
theorem while_w {c : TT} {tb : TS} {D : Ends} {σ : L2.St} {H : Hp} (Pv : L2.St → Hp → Prop) (μ : L2.St → Hp → Nat) (h0 : Pv σ H)
    (hs : ∀ σ H, Pv σ H → c σ H fun b H1 => if b = true then ∃ N : L2.St → Hp → Prop, (∀ σ' H', N σ' H' → ∃ m', m' < μ σ H ∧ m' = μ σ' H' ∧ Pv σ' H') ∧ tb { D with nx := N, ct := N, bk := D.nx } σ H1 else D.nx σ H1) : tWhile c tb D σ H := by
  refine ⟨fun m σ H => m = μ σ H ∧ Pv σ H, ⟨_, rfl, h0⟩, ?_⟩
  rintro m σ H ⟨rfl, p⟩
  exact hs σ H p
/-! ### defs with keyword-only parameters: n written by place, keywords named ks; gV puts them in the parameters' order -/
def CalW (P : Program) (w : World) (K : PySem.W.Frag) (mg : Str → Option Value) (base : Heap) (k : Nat) (nm : Str) (ps : List Str) (n : Nat) (ks : List Str) (gV : List V → List V → List V) (sp : Sp) : Prop :=
  ∃ (f : Addr) (fd : FuncData) (g : List Value → List Value → List Value), FnOk P w K mg base (L2.CX P w) k f fd ps sp ∧ mg nm = some (.ref f) ∧ PySem.W.keepIn K (.ref f) = true ∧ KBn K fd ps n ks g gV
theorem CalW.mono {P : Program} {w : World} {K : PySem.W.Frag} {mg : Str → Option Value} {base : Heap} {j k n : Nat} {nm : Str} {ps ks : List Str} {gV : List V → List V → List V} {sp : Sp} (c : CalW P w K mg base j nm ps n ks gV sp) (h : j ≤ k) : CalW P w K mg base k nm ps n ks gV sp := by
  obtain ⟨f, fd, g, a, b, d, e⟩ := c
  exact ⟨f, fd, g, a.mono h, b, d, e⟩
/-- with the keyword-only ones left out: dvs their values -/
def CalD (P : Program) (w : World) (K : PySem.W.Frag) (mg : Str → Option Value) (base : Heap) (k : Nat) (nm : Str) (ps : List Str) (dvs : List V) (sp : Sp) : Prop :=
  ∃ (f : Addr) (fd : FuncData) (ds : List Value), FnOk P w K mg base (L2.CX P w) k f fd ps sp ∧ mg nm = some (.ref f) ∧ PySem.W.keepIn K (.ref f) = true ∧ Binds K fd ps ds ∧ Vals dvs ds
theorem CalD.mono {P : Program} {w : World} {K : PySem.W.Frag} {mg : Str → Option Value} {base : Heap} {j k : Nat} {nm : Str} {ps : List Str} {dvs : List V} {sp : Sp} (c : CalD P w K mg base j nm ps dvs sp) (h : j ≤ k) : CalD P w K mg base k nm ps dvs sp := by
  obtain ⟨f, fd, g, a, b, d, e⟩ := c
  exact ⟨f, fd, g, a.mono h, b, d, e⟩
/-- new things of the class at C, by keywords -/
def CalNW (P : Program) (w : World) (K : PySem.W.Frag) (mg : Str → Option Value) (base : Heap) (k : Nat) (nm : Str) (C : Addr) (ps ks : List Str) (gV : List V → List V → List V) (sp : Sp) : Prop :=
  ∃ (f : Addr) (fd : FuncData) (g : List Value → List Value → List Value), Mk K C f ∧ FnOk P w K mg base (L2.CX P w) k f fd ps sp ∧ mg nm = some (.ref C) ∧ KBn K fd ps 1 ks g gV
theorem CalNW.mono {P : Program} {w : World} {K : PySem.W.Frag} {mg : Str → Option Value} {base : Heap} {j k : Nat} {nm : Str} {C : Addr} {ps ks : List Str} {gV : List V → List V → List V} {sp : Sp} (c : CalNW P w K mg base j nm C ps ks gV sp) (h : j ≤ k) : CalNW P w K mg base k nm C ps ks gV sp := by
  obtain ⟨f, fd, g, a, b, d, e⟩ := c
  exact ⟨f, fd, g, a, b.mono h, d, e⟩
/-- and with the keyword-only ones left out -/
def CalND (P : Program) (w : World) (K : PySem.W.Frag) (mg : Str → Option Value) (base : Heap) (k : Nat) (nm : Str) (C : Addr) (ps : List Str) (dvs : List V) (sp : Sp) : Prop :=
  ∃ (f : Addr) (fd : FuncData) (ds : List Value), Mk K C f ∧ FnOk P w K mg base (L2.CX P w) k f fd ps sp ∧ mg nm = some (.ref C) ∧ Binds K fd ps ds ∧ Vals dvs ds
theorem CalND.mono {P : Program} {w : World} {K : PySem.W.Frag} {mg : Str → Option Value} {base : Heap} {j k : Nat} {nm : Str} {C : Addr} {ps : List Str} {dvs : List V} {sp : Sp} (c : CalND P w K mg base j nm C ps dvs sp) (h : j ≤ k) : CalND P w K mg base k nm C ps dvs sp := by
  obtain ⟨f, fd, g, a, b, d, e⟩ := c
  exact ⟨f, fd, g, a, b.mono h, d, e⟩
section
variable {X : Cx} {k n : Nat} {C : Addr} {ps ks : List Str} {sp : Sp} {E : XK} {nm : Str} {p pos : Pos} {e : Expr} {es : List Expr} {kws : List Keyword} {t tk : TA} {gV : List V → List V → List V} {dvs : List V}
theorem pe_callW (c : CalW X.prog X.w X.K X.mg X.base k nm ps n ks gV sp) (hr : Room k X.A) (hx : Passes (L2.CX X.prog X.w) X E) (hg : Gl X nm) (ha : PA X (e :: es) t) (hkw : PK X kws tk)
    (hall : (backToKw pos (keywordEach kws X.env)).all (·.1.isSome) = true := by rfl) (hks : (backToKw pos (keywordEach kws X.env)).filterMap (·.1) = ks := by rfl)
    (hdb : (nm == ("__debug__" : Str)) = false := by decide) (he : starEach (e :: es) X.env = (false, eval e X.env) :: starEach es X.env := by rfl)
    (hpl : ((backTo pos (starEach (e :: es) X.env)).any (·.1) || (backToKw pos (keywordEach kws X.env)).any (·.1.isNone)) = false := by rfl) :
    PE X (.Call (.Name nm p) (e :: es) kws pos) (tCallN n ks.length sp gV E t tk) := by
  obtain ⟨f, fd, g, a, b, d, q⟩ := c
  exact pe_callN a hr hg b d q hx ha hkw hall hks hdb he hpl
theorem pe_callWF (c : CalW X.prog X.w X.K X.mg X.base k nm ps n ks gV sp) (hr : Room k X.A) (hg : Gl X nm) (ha : PA X (e :: es) t) (hkw : PK X kws tk)
    (hall : (backToKw pos (keywordEach kws X.env)).all (·.1.isSome) = true := by rfl) (hks : (backToKw pos (keywordEach kws X.env)).filterMap (·.1) = ks := by rfl)
    (hdb : (nm == ("__debug__" : Str)) = false := by decide) (he : starEach (e :: es) X.env = (false, eval e X.env) :: starEach es X.env := by rfl)
    (hpl : ((backTo pos (starEach (e :: es) X.env)).any (·.1) || (backToKw pos (keywordEach kws X.env)).any (·.1.isNone)) = false := by rfl) :
    PE X (.Call (.Name nm p) (e :: es) kws pos) (tCallN n ks.length sp gV E0 t tk) := pe_callW c hr passL hg ha hkw hall hks hdb he hpl
/-- keywords alone -/
theorem pe_callW0 (c : CalW X.prog X.w X.K X.mg X.base k nm ps 0 ks gV sp) (hr : Room k X.A) (hx : Passes (L2.CX X.prog X.w) X E) (hg : Gl X nm) (hkw : PK X kws tk)
    (hall : (backToKw pos (keywordEach kws X.env)).all (·.1.isSome) = true := by rfl) (hks : (backToKw pos (keywordEach kws X.env)).filterMap (·.1) = ks := by rfl) (hdb : (nm == ("__debug__" : Str)) = false := by decide)
    (hpl : ((backTo pos (starEach [] X.env)).any (·.1) || (backToKw pos (keywordEach kws X.env)).any (·.1.isNone)) = false := by rfl) :
    PE X (.Call (.Name nm p) [] kws pos) (tCallN 0 ks.length sp gV E tNil tk) := by
  obtain ⟨f, fd, g, a, b, d, hb⟩ := c
  refine ⟨fun pins s σ H Q I h => wpAny_Call_Name_kw (ld_glob I hg b ?_ hdb)⟩
  refine PySem.W.callWith_KW0 (I.ok.mod.kin) d hall (thn (hkw.run pos pins s σ H _ I h) fun ws s2 x => ?_) hpl
  obtain ⟨zs, H2, I2, rz, l1, l2, q2⟩ := x
  refine ⟨I2.kIn, ?_⟩
  rw [hks]
  exact run_fnN (us := []) (vs := []) a hr hb hx I2 .nil rz rfl l2 q2
theorem pe_callW0F (c : CalW X.prog X.w X.K X.mg X.base k nm ps 0 ks gV sp) (hr : Room k X.A) (hg : Gl X nm) (hkw : PK X kws tk)
    (hall : (backToKw pos (keywordEach kws X.env)).all (·.1.isSome) = true := by rfl) (hks : (backToKw pos (keywordEach kws X.env)).filterMap (·.1) = ks := by rfl) (hdb : (nm == ("__debug__" : Str)) = false := by decide)
    (hpl : ((backTo pos (starEach [] X.env)).any (·.1) || (backToKw pos (keywordEach kws X.env)).any (·.1.isNone)) = false := by rfl) :
    PE X (.Call (.Name nm p) [] kws pos) (tCallN 0 ks.length sp gV E0 tNil tk) := pe_callW0 c hr passL hg hkw hall hks hdb hpl
/-- the keyword-only ones left out -/
theorem pe_callD (c : CalD X.prog X.w X.K X.mg X.base k nm ps dvs sp) (hr : Room k X.A) (hx : Passes (L2.CX X.prog X.w) X E) (hg : Gl X nm) (ha : PA X (e :: es) t) (hdb : (nm == ("__debug__" : Str)) = false := by decide)
    (he : starEach (e :: es) X.env = (false, eval e X.env) :: starEach es X.env := by rfl) (hpl : (backTo pos (starEach es X.env)).any (·.1) = false := by rfl) :
    PE X (.Call (.Name nm p) (e :: es) [] pos) (tCall sp dvs E t) := by
  obtain ⟨f, fd, ds, a, b, d, q, v⟩ := c
  exact pe_call a hr hg b d q v hx ha hdb he hpl
theorem pe_callDF (c : CalD X.prog X.w X.K X.mg X.base k nm ps dvs sp) (hr : Room k X.A) (hg : Gl X nm) (ha : PA X (e :: es) t) (hdb : (nm == ("__debug__" : Str)) = false := by decide)
    (he : starEach (e :: es) X.env = (false, eval e X.env) :: starEach es X.env := by rfl) (hpl : (backTo pos (starEach es X.env)).any (·.1) = false := by rfl) :
    PE X (.Call (.Name nm p) (e :: es) [] pos) (tCall sp dvs E0 t) := pe_callD c hr passL hg ha hdb he hpl
theorem pe_callD0F (c : CalD X.prog X.w X.K X.mg X.base k nm ps dvs sp) (hr : Room k X.A) (hg : Gl X nm) (hdb : (nm == ("__debug__" : Str)) = false := by decide) :
    PE X (.Call (.Name nm p) [] [] pos) (tCall sp dvs E0 tNil) := by
  obtain ⟨f, fd, ds, a, b, d, q, v⟩ := c
  exact pe_call0 a hr hg b d q v passL hdb
theorem pe_makeW (c : CalNW X.prog X.w X.K X.mg X.base k nm C ps ks gV sp) (hr : Room (k + 1) X.A) (hx : Passes (L2.CX X.prog X.w) X E) (hg : Gl X nm) (hkw : PK X kws tk)
    (hall : (backToKw pos (keywordEach kws X.env)).all (·.1.isSome) = true := by rfl) (hks : (backToKw pos (keywordEach kws X.env)).filterMap (·.1) = ks := by rfl) (hdb : (nm == ("__debug__" : Str)) = false := by decide)
    (hpl : ((backTo pos (starEach [] X.env)).any (·.1) || (backToKw pos (keywordEach kws X.env)).any (·.1.isNone)) = false := by rfl) :
    PE X (.Call (.Name nm p) [] kws pos) (tMakeK C 0 ks.length sp gV E tNil tk) := by
  obtain ⟨f, fd, g, a, b, d, hb⟩ := c
  exact pe_makeK0 a b hr hg d hb hx hkw hall hks hdb hpl
theorem pe_makeWF (c : CalNW X.prog X.w X.K X.mg X.base k nm C ps ks gV sp) (hr : Room (k + 1) X.A) (hg : Gl X nm) (hkw : PK X kws tk)
    (hall : (backToKw pos (keywordEach kws X.env)).all (·.1.isSome) = true := by rfl) (hks : (backToKw pos (keywordEach kws X.env)).filterMap (·.1) = ks := by rfl) (hdb : (nm == ("__debug__" : Str)) = false := by decide)
    (hpl : ((backTo pos (starEach [] X.env)).any (·.1) || (backToKw pos (keywordEach kws X.env)).any (·.1.isNone)) = false := by rfl) :
    PE X (.Call (.Name nm p) [] kws pos) (tMakeK C 0 ks.length sp gV E0 tNil tk) := pe_makeW c hr passL hg hkw hall hks hdb hpl
theorem pe_makeDF (c : CalND X.prog X.w X.K X.mg X.base k nm C ps dvs sp) (hr : Room (k + 1) X.A) (hg : Gl X nm) (hdb : (nm == ("__debug__" : Str)) = false := by decide) :
    PE X (.Call (.Name nm p) [] [] pos) (tMake C sp dvs E0 tNil) := by
  obtain ⟨f, fd, ds, a, b, d, hb, v⟩ := c
  exact pe_make0 a b hr hg d hb v passL hdb
end
/-! ### defs as values, called out of a list -/
def tGl (mg : Str → Option Value) (nm : Str) : TE := fun _ H Q => ∀ f, mg nm = some (.ref f) → Q (.ref f) H
def tCall2 (mg : Str → Option Value) (nm1 nm2 : Str) (sp1 sp2 : Sp) (tf : TE) (t : TA) : TE := fun σ H Q => tf σ H fun y H1 => ∃ f, y = .ref f ∧ ((mg nm1 = some (.ref f) ∧ t σ H1 fun vs H2 => sp1 (vs ++ []) H2 Q E0) ∨ (mg nm2 = some (.ref f) ∧ t σ H1 fun vs H2 => sp2 (vs ++ []) H2 Q E0))
section
variable {X : Cx} {k : Nat} {nm nm1 nm2 : Str} {ps ps1 ps2 : List Str} {sp sp1 sp2 : Sp} {fe e : Expr} {es : List Expr} {tf : TE} {t : TA} {p pos : Pos}
theorem pe_gl (c : Cal X.prog X.w X.K X.mg X.base k nm ps sp) (mg : Str → Option Value) (hm : X.mg = mg) (hg : Gl X nm) (hdb : (nm == ("__debug__" : Str)) = false := by decide) : PE X (.Name nm p) (tGl mg nm) := by
  subst hm
  obtain ⟨f, fd, a, b, d, g⟩ := c
  refine ⟨fun pins s σ H Q I h => ?_⟩
  exact (pe_glob (v := .ref f) (pos := p) hg b rfl hdb).run pins s σ H Q I (h f b)
theorem pe_call2 (c1 : Cal X.prog X.w X.K X.mg X.base k nm1 ps1 sp1) (c2 : Cal X.prog X.w X.K X.mg X.base k nm2 ps2 sp2) (mg : Str → Option Value) (hm : X.mg = mg) (hf : PE X fe tf) (hr : Room k X.A) (ha : PA X (e :: es) t)
    (ht : eval (.Call fe (e :: es) [] pos) X.env = (do callWith pos (← eval fe X.env) [] (backTo pos (starEach (e :: es) X.env)) (backToKw pos (keywordEach [] X.env))) := by rfl)
    (he : starEach (e :: es) X.env = (false, eval e X.env) :: starEach es X.env := by rfl) (hpl : (backTo pos (starEach es X.env)).any (·.1) = false := by rfl) : PE X (.Call fe (e :: es) [] pos) (tCall2 mg nm1 nm2 sp1 sp2 tf t) := by
  subst hm
  obtain ⟨f1, fd1, a1, b1, d1, g1⟩ := c1
  obtain ⟨f2, fd2, a2, b2, d2, g2⟩ := c2
  refine ⟨fun pins s σ H Q I h => ?_⟩
  refine Call_ (thn (hf.run pins s σ H _ I h) fun u s1 ⟨y, H1, I1, ry, f, ey, q⟩ => ?_) ht
  subst ey
  obtain rfl : u = Value.ref f := ry
  rcases q with ⟨m, q⟩ | ⟨m, q⟩
  · obtain rfl : f1 = f := by
      rw [b1] at m
      cases m
      rfl
    refine PySem.W.callWith_K (h₀ := X.base) I.ok.mod.kin d1 (thn (ha.run pos pins s1 σ _ _ I1 q) fun us s2 ⟨vs, H2, I2, r, q⟩ => ⟨I2.kIn, ?_⟩) he hpl
    exact run_fn a1 hr g1 .nil pass0 I2 r q
  · obtain rfl : f2 = f := by
      rw [b2] at m
      cases m
      rfl
    refine PySem.W.callWith_K (h₀ := X.base) I.ok.mod.kin d2 (thn (ha.run pos pins s1 σ _ _ I1 q) fun us s2 ⟨vs, H2, I2, r, q⟩ => ⟨I2.kIn, ?_⟩) he hpl
    exact run_fn a2 hr g2 .nil pass0 I2 r q
end
section
variable {K : PySem.W.Frag} {x qual y : Str} {params : Arguments} {body : List Stmt} {scope : Scope} {kws : List (Str × V)} {f : Addr} {fd : FuncData} {ps : List Str} {v : V}
theorem kbn_app (F : FunD K x qual params body scope [] kws f fd) (n : Nat) (ks : List Str) (hk : kws ≠ [])
    (h : ∀ (D : Addr) (doc pm : Value) (an : Option Addr) (cdv ct : Value) (us ws : List Value), us.length = n → ws.length = ks.length → bindArgs (PySem.W.fnOf x qual params body scope .none (.ref D) doc pm an cdv ct) ⟨us, ks.zip ws⟩ = pure (ps.zip (us ++ ws))) :
    ∃ g, KBn K fd ps n ks g (fun vs zs => vs ++ zs) := by
  obtain ⟨mv, h⟩ := F.kbinds0 (ps := ps) n ks [] (fun {α} us mv ws => us ++ ws) hk (fun q hq => by cases hq) (fun r1 _ r3 => r1.append r3) (fun D doc pm an cdv ct us mv ws l1 l2 l3 => by
    have : mv = [] := List.eq_nil_of_length_eq_zero l2
    subst this
    exact h D doc pm an cdv ct us ws l1 l3)
  exact ⟨_, h⟩
/-- two keywords, in the other order -/
theorem kbn_two (F : FunD K x qual params body scope [] kws f fd) (ks : List Str) (hk : kws ≠ []) (h2 : ks.length = 2)
    (h : ∀ (D : Addr) (doc pm : Value) (an : Option Addr) (cdv ct : Value) (u v : Value), bindArgs (PySem.W.fnOf x qual params body scope .none (.ref D) doc pm an cdv ct) ⟨[], ks.zip [u, v]⟩ = pure (ps.zip [v, u])) :
    ∃ g, KBn K fd ps 0 ks g (fun vs zs => vs ++ two zs) := by
  obtain ⟨mv, h⟩ := F.kbinds0 (ps := ps) 0 ks [] (fun {α} us mv ws => us ++ two ws) hk (fun q hq => by cases hq) (fun r1 _ r3 => r1.append (by
    cases r3 with
    | nil => exact .nil
    | cons a r => cases r with
      | nil => exact .nil
      | cons b r => cases r with
        | nil => exact .cons b (.cons a .nil)
        | cons _ _ => exact .nil)) (fun D doc pm an cdv ct us mv ws l1 l2 l3 => by
    have : mv = [] := List.eq_nil_of_length_eq_zero l2
    subst this
    have : us = [] := List.eq_nil_of_length_eq_zero l1
    subst this
    rw [h2] at l3
    match ws, l3 with
    | [u, v], _ => exact h D doc pm an cdv ct u v)
  exact ⟨_, h⟩
theorem dfl_one (F : FunD K x qual params body scope [] [(y, v)] f fd) (n : Nat) (hn : n + 1 = ps.length)
    (h : ∀ (D : Addr) (doc pm : Value) (an : Option Addr) (cdv ct : Value) (us : List Value) (u : Value), us.length = n → KwChain D [(y, u)] (bindArgs (PySem.W.fnOf x qual params body scope .none (.ref D) doc pm an cdv ct) ⟨us, []⟩) (ps.zip (us ++ [u]))) :
    ∃ ds, Vals [v] ds ∧ Binds K fd ps ds := F.binds0 n (by intro z; cases z) hn (fun D doc pm an cdv ct us ks l1 l2 => by
  match ks, l2 with
  | [u], _ => exact h D doc pm an cdv ct us u l1)
theorem funD_one {oc : Value} {od an : Option Addr} {dc pm cd ct : Value} {sl : Array (Option Value)} {D : Addr} {u : Value} (l : K.lookup f = some ⟨oc, od, .func (PySem.W.fnOf x qual params body scope .none (.ref D) dc pm an cd ct), sl⟩) (c : PySem.W.codeIn K cd qual = true) (k : PySem.W.keepIn K (.ref f) = true)
    (n : PySem.W.nsIn K D y = some (some u)) (r : RelV v u) : FunD K x qual params body scope [] [(y, v)] f (PySem.W.fnOf x qual params body scope .none (.ref D) dc pm an cd ct) :=
  ⟨⟨_, _, _, _, _, _, _, _, _, _, rfl, l, c, .inl ⟨rfl, rfl⟩, .inr ⟨D, rfl, fun q hq => by rw [List.mem_singleton.mp hq]; exact ⟨u, n, r⟩⟩⟩, k⟩
end
end WB
namespace WB
open PySem PySem.Spec PyProof.Rows L2
/-! ### many things of one kind, as one -/
section
variable {α : Type} {T0 : List (Addr × Str)} {Ts : List Th} {Y : List α} {f : α → Th} {i j : Nat} {y y' z : α} {H H' : Hp} {N : Th}
theorem mem_tG {a : Addr} : a ∈ (tG (Y.map f)).ft ↔ ∃ y ∈ Y, a ∈ (f y).ft := by
  show a ∈ (Y.map f).flatMap (·.ft) ↔ _
  rw [List.mem_flatMap]
  constructor
  · rintro ⟨T, hT, ha⟩
    obtain ⟨y, hy, rfl⟩ := List.mem_map.mp hT
    exact ⟨y, hy, ha⟩
  · rintro ⟨y, hy, ha⟩
    exact ⟨f y, List.mem_map.mpr ⟨y, hy, rfl⟩, ha⟩
theorem map_at (hj : Y[j]? = some y) : (Y.map f)[j]? = some (f y) := by
  rw [List.getElem?_map, hj]
  rfl
theorem Hs.gget (h : Hs T0 Ts H) (i : Nat) (hi : Ts[i]? = some (tG (Y.map f))) (hj : Y[j]? = some y) : (f y).P H := by
  have g : Hs [] (Y.map f) H := h.get i hi
  exact g.get j (map_at hj)
theorem gset_ft (hj : Y[j]? = some y) (hf : ∀ a ∈ (f y').ft, a ∈ (f y).ft ∨ H a = none) : ∀ a ∈ (tG ((Y.set j y').map f)).ft, a ∈ (tG (Y.map f)).ft ∨ H a = none := fun a ha => by
  obtain ⟨z, hz, ha⟩ := mem_tG.mp ha
  rcases List.mem_or_eq_of_mem_set hz with q | q
  · exact .inl (mem_tG.mpr ⟨z, q, ha⟩)
  · rw [q] at ha
    exact (hf a ha).imp (fun x => mem_tG.mpr ⟨y, List.mem_of_getElem? hj, x⟩) id
theorem gset_P {F : List Addr} (g : Hs [] (Y.map f) H) (hj : Y[j]? = some y) (m : MvF F H H') (hF : ∀ a ∈ F, a ∈ (f y).ft ∨ H a = none) (hp : (f y').P H') (hf : ∀ a ∈ (f y').ft, a ∈ (f y).ft ∨ H a = none) : (tG ((Y.set j y').map f)).P H' := by
  have := g.op (T' := f y') j (map_at hj) m hF hp hf
  rw [← List.map_set] at this
  exact this
theorem Hs.gset {F : List Addr} (h : Hs T0 Ts H) (i : Nat) (hi : Ts[i]? = some (tG (Y.map f))) (hj : Y[j]? = some y) (m : MvF F H H') (hF : ∀ a ∈ F, a ∈ (f y).ft ∨ H a = none) (hp : (f y').P H') (hf : ∀ a ∈ (f y').ft, a ∈ (f y).ft ∨ H a = none) : Hs T0 (Ts.set i (tG ((Y.set j y').map f))) H' :=
  h.op i hi m (fun a ha => (hF a ha).imp (fun x => mem_tG.mpr ⟨y, List.mem_of_getElem? hj, x⟩) id) (gset_P (h.get i hi) hj m hF hp hf) (gset_ft hj hf)
/-- the j-th changes, and a new one comes -/
theorem Hs.gsetN {F : List Addr} (h : Hs T0 Ts H) (i : Nat) (hi : Ts[i]? = some (tG (Y.map f))) (hj : Y[j]? = some y) (m : MvF F H H') (hF : ∀ a ∈ F, a ∈ (f y).ft ∨ H a = none) (hp : (f y').P H') (hf : ∀ a ∈ (f y').ft, a ∈ (f y).ft ∨ H a = none)
    (hn : N.P H') (hnf : ∀ a ∈ N.ft, H a = none ∧ a ∉ (f y').ft) : Hs T0 (N :: Ts.set i (tG ((Y.set j y').map f))) H' := by
  refine h.opNew i hi m (fun a ha => (hF a ha).imp (fun x => mem_tG.mpr ⟨y, List.mem_of_getElem? hj, x⟩) id) (gset_P (h.get i hi) hj m hF hp hf) (gset_ft hj hf) hn (fun a ha => ⟨(hnf a ha).1, fun q => ?_⟩)
  obtain ⟨z, hz, hz2⟩ := mem_tG.mp q
  rcases List.mem_or_eq_of_mem_set hz with q | q
  · have g : Hs [] (Y.map f) H := h.get i hi
    obtain ⟨k, hk⟩ := List.getElem?_of_mem q
    exact (f z).live (g.get k (map_at hk)) hz2 (hnf a ha).1
  · rw [q] at hz2
    exact (hnf a ha).2 hz2
theorem Hs.gadd (h : Hs T0 (f z :: tG (Y.map f) :: Ts) H) : Hs T0 (tG ((Y ++ [z]).map f) :: Ts) H := by
  have h1 := h.swap.ungroup
  rw [show Y.map f ++ f z :: Ts = (Y ++ [z]).map f ++ Ts by simp] at h1
  exact h1.group
theorem Hs.gnil (h : Hs T0 Ts H) : Hs T0 (tG (([] : List α).map f) :: Ts) H := Hs.group (Ts := []) h
end
theorem map_set_same {α β : Type} {f : α → β} {Y : List α} {w : Nat} {x x' : α} (h : Y[w]? = some x) (e : f x' = f x) : (Y.set w x').map f = Y.map f := by
  rw [List.map_set, e]
  apply List.ext_getElem?
  intro i
  rw [List.getElem?_set]
  by_cases z : w = i
  · subst z
    rw [if_pos rfl, List.getElem?_map, h, List.length_map, if_pos (List.getElem?_eq_some_iff.mp h).1]
    rfl
  · rw [if_neg z]
theorem const_by {v : V} {i : Nat} {u : TS} {D : Ends} {σ : L2.St} {H : Hp} (h : u D (σ.set i (some v)) H) : tSeq (tAsg (tC v) (gName i)) u D σ H := h
theorem getElem?_ex {α : Type} {l : List α} {i : Nat} (h : i < l.length) : ∃ x, l[i]? = some x := ⟨_, List.getElem?_eq_getElem h⟩
end WB
namespace WB
open PySem PySem.Spec PyProof.Rows L2
/-! ### tuples of ints, ordered -/
def tupD (t : List Int) : PyData := .tuple (t.map PyData.int)
/-- the first difference decides -/
def lexB : List Int → List Int → Bool
  | [], [] => false
  | [], _ :: _ => true
  | _ :: _, [] => false
  | x :: xs, y :: ys => if x = y then lexB xs ys else decide (x < y)
theorem lexB_eq : ∀ xs ys : List Int, PySem.W.listLt xs ys = lexB xs ys
  | [], [] => rfl
  | [], _ :: _ => rfl
  | _ :: _, [] => rfl
  | x :: xs, y :: ys => by
    unfold PySem.W.listLt lexB
    rw [lexB_eq xs ys]
    rfl
theorem dataLt_tup (s t : List Int) : PySem.W.dataLt (tupD s) (tupD t) = lexB s t := by
  have h := PySem.W.DatumOrd.lt_eq (α := PySem.W.Tup Int) ⟨s⟩ ⟨t⟩
  rw [← lexB_eq]
  exact h
def minT (x : List Int) (r : List (List Int)) : List Int := r.foldl (fun a y => if lexB y a = true then y else a) x
theorem minD_tup : ∀ (r : List (List Int)) (x : List Int), PySem.W.minD (tupD x) (r.map tupD) = tupD (minT x r)
  | [], x => rfl
  | y :: r, x => by
    show (r.map tupD).foldl _ (if PySem.W.dataLt (tupD y) (tupD x) = true then tupD y else tupD x) = tupD (r.foldl _ (if lexB y x = true then y else x))
    rw [dataLt_tup]
    cases lexB y x with
    | true => exact minD_tup r y
    | false => exact minD_tup r x
theorem alike_tup (s t : List Int) : PySem.W.alike (tupD s) (tupD t) = true := PySem.W.DatumOrd.alike (α := PySem.W.Tup Int) ⟨s⟩ ⟨t⟩
theorem depth_tups : ∀ ts : List (List Int), PyData.depthAll (ts.map tupD) ≤ 1
  | [] => Nat.zero_le _
  | t :: ts => by
    show max (PyData.depthAll (t.map PyData.int) + 1) (PyData.depthAll (ts.map tupD)) ≤ 1
    rw [depth_ints]
    exact Nat.max_le.mpr ⟨Nat.le_refl _, depth_tups ts⟩
section
variable {K : PySem.W.Frag}
theorem dpa_at {H : Hp} : ∀ {xs : List V} {ds : List PyData} {i : Nat} {x : V}, DpAll K H xs ds → xs[i]? = some x → ∃ d, ds[i]? = some d ∧ Dp K H x d
  | _, _, _, _, .nil, e => by simp at e
  | _, _, 0, _, .cons h _, e => by simp at e; subst e; exact ⟨_, rfl, h⟩
  | _, _, i + 1, x, .cons _ t, e => by
    obtain ⟨d, h1, h2⟩ := dpa_at (i := i) (x := x) t (by simpa using e)
    exact ⟨d, by simpa using h1, h2⟩
theorem dpa_int_inv {H : Hp} : ∀ {t : List Int} {xs : List V}, DpAll K H xs (t.map PyData.int) → xs = t.map V.int
  | [], _, .nil => rfl
  | _ :: _, _, .cons h r => by
    cases h
    rw [dpa_int_inv r]
    rfl
theorem dp_tup_inv {H : Hp} {v : V} {t : List Int} (h : Dp K H v (tupD t)) : ∃ p, v = .ref p ∧ SqT K H p (t.map V.int) := by
  cases h with
  | tup hs ha => exact ⟨_, rfl, by rw [← dpa_int_inv ha]; exact hs⟩
theorem dp_tup {H : Hp} {p : Addr} {t : List Int} (h : SqT K H p (t.map V.int)) : Dp K H (.ref p) (tupD t) := .tup h (dpa_ints t)
end
theorem tupD_inj {s t : List Int} (h : tupD s = tupD t) : s = t := by
  have h1 : s.map PyData.int = t.map PyData.int := PyData.tuple.inj h
  exact List.map_inj_right (fun _ _ e => PyData.int.inj e) |>.mp h1
/-- min of a list of tuples of ints: one of them, whose numbers are the least -/
def rMinT (K : PySem.W.Frag) : List V → Hp → VK → Prop := fun vs H Q => ∃ (a : Addr) (xs : List V) (x : List Int) (r : List (List Int)), vs = [.ref a] ∧ SqL K H a xs ∧ DpAll K H xs ((x :: r).map tupD) ∧ ∀ (i : Nat) (p : Addr), xs[i]? = some (.ref p) → (x :: r)[i]? = some (minT x r) → SqT K H p ((minT x r).map V.int) → Q (.ref p) H
theorem vals_at {xs : List V} {us : List Value} (h : Vals xs us) : ∀ {i : Nat} {u : Value}, us[i]? = some u → ∃ x, xs[i]? = some x ∧ RelV x u := by
  induction h with
  | nil => intro i u e; simp at e
  | cons a r ih =>
    intro i u e
    cases i with
    | zero => simp at e; subst e; exact ⟨_, rfl, a⟩
    | succ i =>
      obtain ⟨x, h1, h2⟩ := ih (i := i) (u := u) (by simpa using e)
      exact ⟨x, by simpa using h1, h2⟩
section
variable {X : Cx}
theorem cr_minT (hu : X.A.units + 64 < cLine) (hc : X.calm = true) : CallR X (.builtin "min") (rMinT X.K) := by
  intro pins s σ H vs us Q I r h
  obtain ⟨a, xs, x, rs, rfl, hs, hd, q⟩ := h
  obtain ⟨its, rv, hl, _⟩ := I.list hs
  rw [Vals.ref1 r]
  obtain ⟨as, hr⟩ := Dp.readsAll I _ _ _ hd rv
  have hdep := depth_tups (x :: rs)
  refine PySem.W.min_list_data (vs := its.toArray) (x := tupD x) (xs := rs.map tupD) (I.ok.hd hc) hl.isList hr ⟨?_, ?_⟩ ?_ fun i v h' tk bs hi hv hk => ?_
  · intro y hy z hz
    obtain ⟨t1, _, rfl⟩ := List.mem_map.mp (show y ∈ (x :: rs).map tupD from hy)
    obtain ⟨t2, _, rfl⟩ := List.mem_map.mp (show z ∈ (x :: rs).map tupD from hz)
    exact alike_tup t1 t2
  · intro y hy
    obtain ⟨t1, _, rfl⟩ := List.mem_map.mp (show y ∈ (x :: rs).map tupD from hy)
    exact fun z => by cases z
  · have e : PyData.depthAll (tupD x :: rs.map tupD) ≤ 1 := hdep
    omega
  · rw [minD_tup] at hv
    obtain ⟨xv, h1, h2⟩ := vals_at rv (i := i) (u := v) (by simpa using hi)
    obtain ⟨d, e1, e2⟩ := dpa_at hd h1
    obtain ⟨cs, hv2⟩ := Dp.reads I d xv v e2 h2
    have e3 := (reads_det (h := s.heap) (h' := h') (fun b o e _ => hk b o e) hv2 hv).1
    rw [← e3] at e1 e2
    obtain ⟨p, rfl, hp⟩ := dp_tup_inv e2
    have e4 : (x :: rs)[i]? = some (minT x rs) := by
      rw [List.getElem?_map] at e1
      cases e5 : (x :: rs)[i]? with
      | none => rw [e5] at e1; cases e1
      | some t =>
        rw [e5] at e1
        rw [tupD_inj (Option.some.inj e1)]
    exact ⟨.ref p, H, I.kept hk, h2, q i p h1 e4 hp⟩
theorem cr_minTK (K : PySem.W.Frag) (h : X.K = K) (hu : X.A.units + 64 < cLine) (hc : X.calm = true) : CallR X (.builtin "min") (rMinT K) := by subst h; exact cr_minT hu hc
end
end WB
namespace WB
open PySem PySem.Spec PyProof.Rows L2
theorem mt_lcountK {X : Cx} (K : PySem.W.Frag) (h : X.K = K) : MtR X "list.count" (rCntI K) := by subst h; exact mt_lcount
theorem eq_t {a b : Int} (e : decide (V.int a = V.int b) = true) : a = b := V.int.inj (of_decide_eq_true e)
theorem eq_f {a b : Int} (e : ¬ decide (V.int a = V.int b) = true) : a ≠ b := fun z => e (decide_eq_true (congrArg V.int z))
theorem ne_t {a b : Int} (e : (!decide (V.int a = V.int b)) = true) : a ≠ b := fun z => by
  rw [decide_eq_true (congrArg V.int z)] at e
  cases e
theorem ne_f {a b : Int} (e : ¬ (!decide (V.int a = V.int b)) = true) : a = b := by
  by_cases z : a = b
  · exact z
  · exact absurd (by rw [decide_eq_false (fun y => z (V.int.inj y))]; rfl) e
end WB
namespace WB
open PySem PySem.Spec PyProof.Rows L2
def topS (i : Nat) : Stmt := PySem.Challenge.pw_warbleline_k49_whole_no_key_is_lost.main.body.getD i (.Pass ⟨0, 0, 0, 0⟩)
abbrev s__wall : Stmt := topS 0
abbrev s_LineError : Stmt := topS 2
abbrev s_BadByte : Stmt := topS 3
abbrev s_BadCount : Stmt := topS 4
abbrev s_check_bytes : Stmt := topS 7
abbrev s_Guard : Stmt := topS 13
abbrev m_Guard___init__ : Stmt := inClass s_Guard 0
abbrev m_Guard_beat : Stmt := inClass s_Guard 1
abbrev m_Guard_beat_of_silence : Stmt := inClass s_Guard 2
abbrev m_Guard_held : Stmt := inClass s_Guard 3
abbrev m_Guard_twin : Stmt := inClass s_Guard 4
abbrev s__law_bag : Stmt := topS 15
abbrev s__law_pick : Stmt := topS 16
abbrev s__law_of : Stmt := topS 17
abbrev s__law_same : Stmt := topS 18
abbrev s__law_row : Stmt := topS 19
abbrev s__law_keys : Stmt := topS 20
abbrev s__law_signed : Stmt := topS 21
abbrev s_law : Stmt := topS 22
section
variable {P : Program} {w : World} {K : PySem.W.Frag} {mg : Str → Option Value} {base : Heap}
abbrev i_LineError : Stmt := inClass s_LineError 0
theorem sc_i_LineError : FnScope ["self", "word", "text"] ["self", "word", "text"] (defScope i_LineError) := ⟨rfl, rfl, rfl, by decide +kernel, rfl, by decide +kernel, by decide +kernel⟩
theorem ok_i_LineError {f : Addr} {fd : FuncData} {k : Nat} {dvs : List V} (F : FunD K "__init__" "LineError.__init__" (defArgs i_LineError) (defBody i_LineError) (defScope i_LineError) dvs [] f fd) (n_ValueError : mg "ValueError" = none) (vV : PySem.W.findCls K (.type "ValueError") (.type "type") "__init__" = some (.val (.builtin "ValueError.__init__"))) :
    FnOk P w K mg base CX0 (k + 1) f fd ["self", "word", "text"] (spLE K) := by
  have sc := sc_i_LineError
  refine F.ok sc (fun vs H Q E h => ?_) (fun cdv A outer s H vs Q E hr h => ?_)
  · obtain ⟨a, C, w, t, rfl, _⟩ := h
    rfl
  · obtain ⟨a, C, w, t, rfl, hC, hw, ha, q⟩ := h
    refine ⟨_, PSs.nox (pss_cons (ps_expr (pe_veinit (by rfl) n_ValueError vV (pa_cons (pv 0) (pa_cons (pv 2) pa_nil)))) (pss_one (ps_ost (pv 0) (pv 1)))), ?_⟩
    refine ⟨_, rfl, _, rfl, a, C, [t], rfl, by show 1 ≤ 1000; decide, hC, ha, ?_⟩
    exact ⟨_, rfl, _, rfl, a, C, rfl, hC, hw, .inl ⟨ha, fun d nd da => q d nd da⟩⟩
abbrev i_BadByte : Stmt := inClass s_BadByte 0
theorem sc_i_BadByte : FnScope ["self", "at"] ["self", "at"] (defScope i_BadByte) := ⟨rfl, rfl, rfl, by decide +kernel, rfl, by decide +kernel, by decide +kernel⟩
theorem ok_i_BadByte {f fL C CL : Addr} {fd fdL : FuncData} {k : Nat} (F : Fun K "__init__" "BadByte.__init__" i_BadByte f fd) (TL : ClsFn K mg "LineError" "__init__" CL fL) (FL : FnOk P w K mg base CX0 k fL fdL ["self", "word", "text"] (spLE K)) (bL : Binds K fdL ["self", "word", "text"] [])
    (hC : OexC K C) (hw : PySem.W.findIn K (.ref C) "word" = some none) (hf : PySem.W.findIn K (.ref C) "at" = some none) : FnOk P w K mg base CX0 (k + 1) f fd ["self", "at"] (spIni K C "BadByte" "at") := by
  have sc := sc_i_BadByte
  refine F.ok sc (fun vs H Q E h => ?_) (fun cdv A outer s H vs Q E hr h => ?_)
  · obtain ⟨a, i, rfl, _⟩ := h
    rfl
  · obtain ⟨a, i, rfl, hi, ha, q⟩ := h
    refine ⟨_, (pss_cons (ps_expr (pe_clsfn TL FL hr bL pass0 (by rfl) (pa_cons (pv 0) (pa_cons pe_str (pa_cons (pe_joined (.cons pe_str (.cons (pe_fmt (pv 1)) .nil))) pa_nil))))) (pss_one (ps_ost (pv 0) (pv 1)))), ?_⟩
    refine ⟨_, rfl, _, rfl, (by decide +kernel), _, rfl, .inr ⟨i, rfl, by omega, _, rfl, txt_fits (by decide +kernel) hi, ?_⟩⟩
    refine ⟨a, C, _, _, rfl, hC, hw, ha, fun d nd da => ?_⟩
    refine ⟨_, rfl, _, rfl, a, C, rfl, hC, hf, .inr ⟨d, _, upd_same, ?_, by show 1 ≤ 900; decide, q d nd da⟩⟩
    rw [upd_ne da, upd_same]
abbrev i_BadCount : Stmt := inClass s_BadCount 0
theorem sc_i_BadCount : FnScope ["self"] ["self"] (defScope i_BadCount) := ⟨rfl, rfl, rfl, by decide +kernel, rfl, by decide +kernel, by decide +kernel⟩
theorem ok_i_BadCount {f fL C CL : Addr} {fd fdL : FuncData} {k : Nat} (F : Fun K "__init__" "BadCount.__init__" i_BadCount f fd) (TL : ClsFn K mg "LineError" "__init__" CL fL) (FL : FnOk P w K mg base CX0 k fL fdL ["self", "word", "text"] (spLE K)) (bL : Binds K fdL ["self", "word", "text"] [])
    (hC : OexC K C) (hw : PySem.W.findIn K (.ref C) "word" = some none) : FnOk P w K mg base CX0 (k + 1) f fd ["self"] (spIni0 K C "BadCount") := by
  have sc := sc_i_BadCount
  refine F.ok sc (fun vs H Q E h => ?_) (fun cdv A outer s H vs Q E hr h => ?_)
  · obtain ⟨a, rfl, _⟩ := h
    rfl
  · obtain ⟨a, rfl, ha, q⟩ := h
    refine ⟨_, (pss_one (ps_expr (pe_clsfn TL FL hr bL pass0 (by rfl) (pa_cons (pv 0) (pa_cons pe_str (pa_cons pe_str pa_nil)))))), ?_⟩
    exact ⟨_, rfl, a, C, _, _, rfl, hC, hw, ha, fun d nd da => q d nd da⟩
/-! ### bytes -/
def isY (z : Int) : Prop := 0 ≤ z ∧ z < 256
def Bytes (ns : List Int) : Prop := ∀ z ∈ ns, isY z
def bb (ns : List Int) : List Int := (ns.map (wr 8)).flatten
theorem bb_cons (n : Int) (r : List Int) : bb (n :: r) = wr 8 n ++ bb r := rfl
theorem bb_app (a c : List Int) : bb (a ++ c) = bb a ++ bb c := by
  unfold bb
  rw [List.map_append, List.flatten_append]
theorem bb_len : ∀ ns : List Int, (bb ns).length = 8 * ns.length
  | [] => rfl
  | n :: r => by
    rw [bb_cons, List.length_append, wr_len, bb_len r, List.length_cons]
    omega
theorem bb_bits : ∀ ns : List Int, Bits (bb ns)
  | [] => bits_nil
  | n :: r => by
    rw [bb_cons]
    exact bits_app (wr_bits 8 n) (bb_bits r)
/-- the number that bits write -/
def bn (bs : List Int) : Int := bs.foldl (fun n b => 2 * n + b) 0
theorem bn_wr {n : Int} (h : isY n) : bn (wr 8 n) = n := by
  show 2 * (2 * (2 * (2 * (2 * (2 * (2 * (2 * 0 + (n / 2 ^ 7) % 2) + (n / 2 ^ 6) % 2) + (n / 2 ^ 5) % 2) + (n / 2 ^ 4) % 2) + (n / 2 ^ 3) % 2) + (n / 2 ^ 2) % 2) + (n / 2 ^ 1) % 2) + (n / 2 ^ 0) % 2 = n
  unfold isY at h
  omega
theorem bn_more {bs : List Int} {i : Nat} {b : Int} (h : bs[i]? = some b) : bn (bs.take (i + 1)) = 2 * bn (bs.take i) + b := by
  unfold bn
  rw [take_more h, List.foldl_append]
  rfl
theorem bn_bound : ∀ (bs : List Int), Bits bs → bs.length ≤ 8 → -(2 ^ 64) < bn bs ∧ bn bs < 2 ^ 64 := by
  intro bs hb hl
  have key : ∀ (l : List Int) (n : Int) (k : Nat), Bits l → 0 ≤ n → n < 2 ^ k → l.foldl (fun n b => 2 * n + b) n < 2 ^ (k + l.length) ∧ 0 ≤ l.foldl (fun n b => 2 * n + b) n := by
    intro l
    induction l with
    | nil => exact fun n k _ h0 h1 => ⟨h1, h0⟩
    | cons b r ih =>
      intro n k hb h0 h1
      have hbb := bits_cons hb
      have e : (2 : Int) ^ (k + 1) = 2 * 2 ^ k := by rw [Int.pow_succ, Int.mul_comm]
      have := ih (2 * n + b) (k + 1) hbb.2 (by rcases hbb.1 with rfl | rfl <;> omega) (by rcases hbb.1 with rfl | rfl <;> omega)
      rw [List.length_cons, show k + (r.length + 1) = k + 1 + r.length by omega]
      exact this
  have := key bs 0 0 hb (by decide) (by decide)
  have e : (2 : Int) ^ (0 + bs.length) ≤ 2 ^ 8 := by
    have : (2 : Nat) ^ (0 + bs.length) ≤ 2 ^ 8 := Nat.pow_le_pow_right (by decide) (by omega)
    exact_mod_cast this
  unfold bn
  omega
/-- eight by eight -/
def by8 (bs : List Int) (n : Nat) : List Int := (List.range n).map fun i => bn ((bs.drop (8 * i)).take 8)
theorem by8_bb : ∀ {ns : List Int}, Bytes ns → by8 (bb ns) ns.length = ns
  | [], _ => rfl
  | n :: r, h => by
    have ih := by8_bb (ns := r) (fun z hz => h z (.tail _ hz))
    unfold by8 at ih ⊢
    rw [List.length_cons, List.range_succ_eq_map, List.map_cons, List.map_map]
    have e0 : bn (((bb (n :: r)).drop (8 * 0)).take 8) = n := by
      rw [bb_cons, Nat.mul_zero, List.drop_zero, List.take_append_of_le_length (by rw [wr_len]; exact Nat.le_refl _), List.take_of_length_le (by rw [wr_len]; exact Nat.le_refl _)]
      exact bn_wr (h n (.head _))
    rw [e0]
    congr 1
theorem lc_rngC {lo c : Int} {n : Nat} {g : TG} {tt : TT} {te : TE} {vs : List Nat} {σ : L2.St} {H1 : Hp} {D : Addr} {Qd : Hp → Prop} (Pv : Nat → Hp → Prop) (p0 : Pv 0 (upd H1 D (.lst [])))
    (ps : ∀ i H, i < n → Pv i H → g (.int (lo + (i : Nat) * c)) (wipe σ vs) H fun σ2 H2 => wipe σ2 vs = wipe σ vs ∧ tt σ2 H2 fun b H3 =>
      if b = true then te σ2 H3 fun y H4 => ∃ acc, H4 D = some (.lst acc) ∧ acc.length < sizeLine ∧ Pv (i + 1) (upd H4 D (.lst (acc ++ [y]))) else Pv (i + 1) H3) (pd : ∀ H, Pv n H → Qd H) :
    ∃ W : Nat → Nat → Hp → Prop, (∃ m, W 0 m (upd H1 D (.lst []))) ∧ ∀ i m H, W i m H →
      ((Itc lo c n).stop i H ∧ Qd H) ∨ ((Itc lo c n).go i H ∧ ∃ Nx : Hp → Prop, (∀ H', Nx H' → ∃ m', m' < m ∧ W (i + 1) m' H') ∧ ∀ y H', (Itc lo c n).yld i H y H' → g y (wipe σ vs) H' fun σ2 H2 => wipe σ2 vs = wipe σ vs ∧ tt σ2 H2 fun b H3 =>
        if b = true then te σ2 H3 fun y H4 => ∃ acc, H4 D = some (.lst acc) ∧ acc.length < sizeLine ∧ Nx (upd H4 D (.lst (acc ++ [y]))) else Nx H3) := by
  refine ⟨fun i m H => m = n - i ∧ i ≤ n ∧ Pv i H, ⟨_, rfl, Nat.zero_le _, p0⟩, fun i m H hw => ?_⟩
  obtain ⟨rfl, hi, p⟩ := hw
  by_cases hlt : i < n
  · refine .inr ⟨hlt, Pv (i + 1), fun H' p' => ⟨n - (i + 1), by omega, rfl, hlt, p'⟩, fun y H' hy => ?_⟩
    obtain ⟨rfl, rfl⟩ := hy
    exact ps i _ hlt p
  · obtain rfl : i = n := by omega
    exact .inl ⟨Nat.le_refl _, pd H p⟩
theorem log_le {n : Nat} (h : n ≤ 100000) : ((n : Int)).natAbs.log2 < 1000 := by
  rw [Int.natAbs_natCast]
  by_cases z : n = 0
  · subst z
    decide
  · exact (Nat.log2_lt z).mpr (Nat.lt_of_le_of_lt h (by decide))
theorem sc_check_bytes : FnScope ["row", "at", "byte"] ["row"] (defScope s_check_bytes) := ⟨rfl, rfl, rfl, by decide +kernel, rfl, by decide +kernel, by decide +kernel⟩
def spCheckY (K : PySem.W.Frag) (C : Addr) : Sp := fun vs H Q E => ∃ (a : Addr) (ns : List Int), vs = [.ref a] ∧ SqL K H a (ns.map V.int) ∧ ns.length ≤ 100000 ∧ (Bytes ns → ∀ H', Same H H' → Q .non H') ∧
  (∀ (i : Nat) (z : Int), ns[i]? = some z → ¬ isY z → Bytes (ns.take i) → ∀ H' d, Same H H' → H d = none → H' d = some (.xd [(("at" : Str), .int (i : Int)), (("word" : Str), .str "BadByte")]) → E (.ref C) (some d) H')
theorem ok_check_bytes {f C : Addr} {fd : FuncData} {k : Nat} {tG : Tok} (F : Fun K "check_bytes" "check_bytes" s_check_bytes f fd) (n_enumerate : mg "enumerate" = none) (g_GREATEST_BYTE : mg "GREATEST_BYTE" = some (.int 255 tG)) (x_BadByte : XcOk P w K mg base k "BadByte" C (spIni K C "BadByte" "at")) : FnOk P w K mg base (L2.CX P w) (k + 2) f fd ["row"] (spCheckY K C) := by
  have sc := sc_check_bytes
  refine F.okX sc (fun vs H Q E h => ?_) (fun cdv A outer s H vs Q E hr h => ?_)
  · obtain ⟨a, ns, rfl, _⟩ := h
    rfl
  · obtain ⟨a, ns, rfl, hS, hl, q, qe⟩ := h
    refine ⟨_, (pss_one (ps_for (passes_of rfl) rfl (pi_enum (by rfl) n_enumerate (pa_cons (pv 0) pa_nil)) (pg_tup rfl (pgs_cons (pg_name (i := 1) sc.nd rfl (.inl rfl)) (pgs_cons (pg_name (i := 2) sc.nd rfl (.inl rfl)) pgs_nil)))
  (pss_one (ps_if (PW.pt (pw_or (pt_cmpR op_lt (pv 2) pe_int (nomark _)) (pw_or1 (pt_cmpR op_gt (pv 2) (pe_glob (v := .int 255) (by rfl) g_GREATEST_BYTE ⟨_, rfl⟩) (nomark _)))))
  (pss_one (ps_raise rfl (takes_of rfl rfl rfl rfl) (pmk_c x_BadByte hr (by rfl) (pa_cons (pv 1) pa_nil))))
  pss_nil)))), ?_⟩
    refine ⟨_, rfl, a, _, rfl, hS, for_enumK (xs := ns.map V.int) (fun i σ H' => ∃ y1 y2, σ = [some (.ref a), y1, y2] ∧ Same H H' ∧ Bytes (ns.take i)) ⟨none, none, rfl, Same.refl H, fun z hz => absurd hz List.not_mem_nil⟩ (fun i σ H' _ h => ?_) ?_ ?_⟩
    · obtain ⟨y1, y2, _, sm, _⟩ := h
      exact sm.seq hS
    · rintro i x T σ H' hx ⟨y1, y2, rfl, sm, hbi⟩ nT
      obtain ⟨z, hz, rfl⟩ := getI hx
      have hil : i < ns.length := (List.getElem?_eq_some_iff.mp hz).1
      have s1 := sm.trans (same_upd (o := .tup [.int (i : Nat), .int z]) nT)
      refine ⟨T, _, rfl, SqT.of upd_same, rfl, _, _, rfl, _, _, rfl, rfl, ?_⟩
      have bad : ¬ isY z → ∀ R : XK, R = E → True := fun _ _ _ => trivial
      refine ⟨_, rfl, _, _, rfl, rfl, _, rfl, ite2 (fun e => ?_) (fun e => ?_)⟩
      · have nb : ¬ isY z := by
          have := of_decide_eq_true e
          unfold isY
          omega
        exact iteT ⟨_, rfl, mk_inner (log_le (by omega)) (fun H3 d s3 nd ed => qe i z hz nb hbi H3 d (s1.trans s3) (s1.free nd) ed)⟩
      · have e0 : ¬ z < 0 := fun y => e (decide_eq_true y)
        refine ⟨_, rfl, _, _, rfl, rfl, _, rfl, ite2 (fun e => ?_) (fun e => ?_)⟩
        · have nb : ¬ isY z := by
            have := of_decide_eq_true e
            unfold isY
            omega
          exact ⟨_, rfl, mk_inner (log_le (by omega)) (fun H3 d s3 nd ed => qe i z hz nb hbi H3 d (s1.trans s3) (s1.free nd) ed)⟩
        · have e1 : ¬ (255 : Int) < z := fun y => e (decide_eq_true y)
          refine ⟨_, _, rfl, s1, ?_⟩
          rw [take_more hz]
          intro y hy
          rcases List.mem_append.mp hy with h | h
          · exact hbi y h
          · rw [List.mem_singleton.mp h]
            unfold isY
            omega
    · rintro σ H' ⟨y1, y2, rfl, sm, hbi⟩
      rw [List.length_map, List.take_length] at hbi
      exact q hbi H' sm
theorem sc__law_bag : FnScope ["_law_script"] ["_law_script"] (defScope s__law_bag) := ⟨rfl, rfl, rfl, by decide +kernel, rfl, by decide +kernel, by decide +kernel⟩
theorem ok__law_bag {f : Addr} {fd : FuncData} {k : Nat} (F : Fun K "_law_bag" "_law_bag" s__law_bag f fd) (n_len : mg "len" = none) (n_list : mg "list" = none) : FnOk P w K mg base CX0 (k + 1) f fd ["_law_script"] (spBag K) := by
  have sc := sc__law_bag
  refine F.ok sc (fun vs H Q E h => ?_) (fun cdv A outer s H vs Q E hr h => ?_)
  · obtain ⟨a, ns, rfl, _⟩ := h
    rfl
  · obtain ⟨a, ns, rfl, hS, q⟩ := h
    refine ⟨_, (pss_one (ps_ret (pe_lst (pa_cons (pe_callTy (call_listK K rfl) (by rfl) n_list (by decide +kernel) (pa_cons (pe_slice (sl_listK K rfl) (pv 0) po_none (po_some pe_int)) pa_nil)) (pa_cons pe_int (pa_cons pe_int (pa_cons (pe_op op_add pe_int (pe_callB (call_lenK K rfl) (by rfl) n_len PySem.boot_len (pa_cons (pe_slice (sl_listK K rfl) (pv 0) po_none (po_some pe_int)) pa_nil))) (pa_cons pe_int pa_nil)))))))), ?_⟩
    refine ⟨_, rfl, 63, rfl, a, _, rfl, hS, fun p1 n1 => ?_⟩
    refine ⟨p1, _, rfl, .inl (SqL.of upd_same), fun p2 n2 => ?_⟩
    have s1 : Same H (upd H p1 (.lst (cutV (ns.map V.int) none (some 63)))) := same_upd n1
    have s2 := s1.trans (same_upd (o := .lst (cutV (ns.map V.int) none (some 63))) n2)
    refine ⟨_, rfl, 63, rfl, a, _, rfl, s2.seq hS, fun p3 n3 => ?_⟩
    have s3 := s2.trans (same_upd (o := .lst (cutV (ns.map V.int) none (some 63))) n3)
    refine ⟨p3, _, rfl, .inl (SqL.of upd_same), _, _, rfl, rfl, (by show 5 ≤ sizeLine; decide), fun p4 n4 => ?_⟩
    have s4 := s3.trans (same_upd (o := .lst (bagL p2 0 0 (977 + ((cutV (ns.map V.int) none (some 63)).length : Int)) 0)) n4)
    have e0 : cutV (ns.map V.int) none (some 63) = (ns.take 63).map V.int := by
      unfold cutV
      rw [HT.sIx_none, show HT.sIx (ns.map V.int).length (ns.map V.int).length (some 63) = min 63 (ns.map V.int).length from HT.sIx_nat _ _ 63]
      simp only [List.drop_zero, Nat.sub_zero, List.length_map, List.map_take]
      by_cases h : ns.length ≤ 63
      · rw [Nat.min_eq_right h, List.take_of_length_le (by simp), List.take_of_length_le (by simpa using h)]
      · rw [Nat.min_eq_left (by omega)]
    have n42 : p4 ≠ p2 := fun z => by
      rw [z, upd_ne (ne_of_none upd_same n3), upd_same] at n4
      cases n4
    refine q _ (p4, p2) s4 (s3.free n4) ⟨ns.take 63, 0, 0, _, 0, upd_same, ?_, n42.symm, by omega, ?_, ?_⟩
    · rw [upd_ne n42.symm, upd_ne (ne_of_none upd_same n3), upd_same, e0]
    · omega
    · rw [e0, List.length_map, List.length_take]
      omega
theorem sc__law_pick : FnScope ["_law_bag_here", "_law_top", "_law_cell", "_law_digit"] ["_law_bag_here", "_law_top"] (defScope s__law_pick) := ⟨rfl, rfl, rfl, by decide +kernel, rfl, by decide +kernel, by decide +kernel⟩
theorem ok__law_pick {f : Addr} {fd : FuncData} {k : Nat} (F : Fun K "_law_pick" "_law_pick" s__law_pick f fd) (n_len : mg "len" = none) : FnOk P w K mg base CX0 (k + 1) f fd ["_law_bag_here", "_law_top"] spPick := by
  have sc := sc__law_pick
  refine F.ok sc (fun vs H Q E h => ?_) (fun cdv A outer s H vs Q E hr h => ?_)
  · obtain ⟨b, top, rfl, _⟩ := h
    rfl
  · obtain ⟨⟨b, sa⟩, top, rfl, ⟨ns, i, r, x, c, hb, hs, hne, hi, hx0, hx1⟩, ht0, ht1, q⟩ := h
    refine ⟨_, (pss_cons (ps_if (PW.pt (pw_and (pt_cmpR op_lt (pe_ix (ix_listK K rfl) (pv 0) pe_int (fun _ _ => rfl)) (pv 1) (nomark _)) (pw_and1 (pt_cmpR op_lt (pe_ix (ix_listK K rfl) (pv 0) pe_int (fun _ _ => rfl)) (pe_callB (call_lenK K rfl) (by rfl) n_len PySem.boot_len (pa_cons (pe_ix (ix_listK K rfl) (pv 0) pe_int (fun _ _ => rfl)) pa_nil)) (nomark _)))))
  (pss_cons (ps_set (i := 2) sc.nd rfl (.inl rfl) (pe_ix (ix_listK K rfl) (pe_ix (ix_listK K rfl) (pv 0) pe_int (fun _ _ => rfl)) (pe_ix (ix_listK K rfl) (pv 0) pe_int (fun _ _ => rfl)) (fun _ _ => rfl)))
 (pss_cons (ps_asg (pe_op op_add (pe_ix (ix_listK K rfl) (pv 0) pe_int (fun _ _ => rfl)) pe_int) (pg_sub (pv 0) pe_int set_list))
 (pss_cons (ps_asg (pe_op op_mod (pe_op op_add (pe_op op_add (pe_op op_mul (pe_ix (ix_listK K rfl) (pv 0) pe_int (fun _ _ => rfl)) pe_int) (pv 2)) (pe_ix (ix_listK K rfl) (pv 0) pe_int (fun _ _ => rfl))) pe_int) (pg_sub (pv 0) pe_int set_list))
 (pss_one (ps_asg (pe_ifExp (pt_cmpR op_ge (pv 2) (pe_op op_pow pe_int pe_int) (nomark _)) (pv 2) pe_int) (pg_sub (pv 0) pe_int set_list))))))
  pss_nil)
 (pss_cons (ps_if (pt_cmpR op_ge (pe_ix (ix_listK K rfl) (pv 0) pe_int (fun _ _ => rfl)) (pv 1) (nomark _))
  (pss_cons (ps_set (i := 3) sc.nd rfl (.inl rfl) (pe_op op_mod (pe_ix (ix_listK K rfl) (pv 0) pe_int (fun _ _ => rfl)) (pv 1)))
 (pss_cons (ps_asg (pe_op op_fdiv (pe_ix (ix_listK K rfl) (pv 0) pe_int (fun _ _ => rfl)) (pv 1)) (pg_sub (pv 0) pe_int set_list))
 (pss_one (ps_ret (pv 3)))))
  pss_nil)
 (pss_cons (ps_asg (pe_op op_add (pe_ix (ix_listK K rfl) (pv 0) pe_int (fun _ _ => rfl)) pe_int) (pg_sub (pv 0) pe_int set_list))
 (pss_cons (ps_asg (pe_op op_mod (pe_op op_add (pe_op op_add (pe_op op_add (pe_op op_pow (pe_ix (ix_listK K rfl) (pv 0) pe_int (fun _ _ => rfl)) pe_int) (pe_op op_mul pe_int (pe_ix (ix_listK K rfl) (pv 0) pe_int (fun _ _ => rfl)))) (pe_op op_fdiv (pe_ix (ix_listK K rfl) (pv 0) pe_int (fun _ _ => rfl)) pe_int)) pe_int) pe_int) (pg_sub (pv 0) pe_int set_list))
 (pss_one (ps_ret (pe_op op_mod (pe_op op_fdiv (pe_ix (ix_listK K rfl) (pv 0) pe_int (fun _ _ => rfl)) pe_int) (pv 1)))))))), ?_⟩
    refine seq_by (J := fun σ1 H1 => ∃ (y2 : Option V) (i r x c : Int), σ1 = [some (.ref b), some (.int top), y2, none] ∧ H1 b = some (.lst (bagL sa i r x c)) ∧ H1 sa = some (.lst (ns.map V.int)) ∧ Mv b H H1 ∧ 0 ≤ i ∧ 0 ≤ x ∧ x < 2147483648) ?_ (fun rest => ?_)
    · rintro σ1 H1 ⟨y2, i, r, x, c, rfl, hb, hs, mv, hi, hx0, hx1⟩
      refine ⟨_, rfl, b, _, 2, .int r, rfl, rfl, SqL.of hb, rfl, _, rfl, r, top, rfl, rfl, _, rfl, ite2 (fun e => ?_) (fun e => ?_)⟩
      · refine ⟨_, rfl, b, _, 2, .int r, rfl, rfl, SqL.of hb, rfl, _, rfl, r, top, rfl, rfl, ht0, ?_⟩
        refine ⟨_, rfl, b, _, 2, .int r, rfl, rfl, SqL.of hb, rfl, _, rfl, r, top, rfl, rfl, ⟨ht0, ht1⟩, ?_⟩
        refine ⟨_, rfl, b, _, 2, 2, rfl, rfl, hb, rfl, ?_⟩
        refine ⟨_, rfl, ?_⟩
        refine q _ _ mv.upd ⟨ns, i, _, x, c, upd_same, ?_, hne, hi, hx0, hx1⟩ (Int.emod_nonneg _ (by omega)) (Int.emod_lt_of_pos _ ht0)
        rw [upd_ne hne]
        exact hs
      · refine ⟨_, rfl, b, _, 4, .int c, rfl, rfl, SqL.of hb, rfl, c, 1, rfl, rfl, _, rfl, b, _, 4, 4, rfl, rfl, hb, rfl, ?_⟩
        have hb2 : upd H1 b (.lst (bagL sa i r x (c + 1))) b = some (.lst (bagL sa i r x (c + 1))) := upd_same
        refine ⟨_, rfl, b, _, 3, .int x, rfl, rfl, SqL.of hb2, rfl, x, 3, rfl, rfl, ⟨by decide, by decide, by omega⟩, ?_⟩
        refine ⟨_, rfl, b, _, 4, .int (c + 1), rfl, rfl, SqL.of hb2, rfl, 40503, c + 1, rfl, rfl, .inl ⟨by decide, by decide⟩, _, _, rfl, rfl, ?_⟩
        refine ⟨_, rfl, b, _, 3, .int x, rfl, rfl, SqL.of hb2, rfl, x, 65537, rfl, rfl, ⟨by decide, by decide⟩, _, _, rfl, rfl, _, _, rfl, rfl, _, _, rfl, rfl, (by show (0 : Int) < 2147483629; decide), ?_⟩
        refine ⟨_, rfl, b, _, 3, 3, rfl, rfl, hb2, rfl, ?_⟩
        rw [upd_upd]
        obtain ⟨z, hz⟩ : ∃ z, (x ^ Int.toNat 3 + 40503 * (c + 1) + x / 65537 + 11) % 2147483629 = z := ⟨_, rfl⟩
        have ez : (bagL sa i r x (c + 1)).set 3 ((fun i j => V.int (i % j)) (x ^ Int.toNat 3 + 40503 * (c + 1) + x / 65537 + 11) 2147483629) = bagL sa i r z (c + 1) := by rw [← hz]; rfl
        rw [ez]
        have z0 : 0 ≤ z := by rw [← hz]; exact Int.emod_nonneg _ (by decide)
        have z1 : z < 2147483648 := by
          have : z < 2147483629 := by rw [← hz]; exact Int.emod_lt_of_pos _ (by decide)
          omega
        have hb3 : upd H1 b (.lst (bagL sa i r z (c + 1))) b = some (.lst (bagL sa i r z (c + 1))) := upd_same
        refine ⟨_, rfl, b, _, 3, .int z, rfl, rfl, SqL.of hb3, rfl, z, 16, rfl, rfl, ⟨by decide, by decide⟩, _, rfl, _, top, rfl, rfl, ht0, ?_⟩
        refine q _ _ mv.upd ⟨ns, i, r, z, c + 1, upd_same, ?_, hne, hi, z0, z1⟩ (Int.emod_nonneg _ (by omega)) (Int.emod_lt_of_pos _ ht0)
        rw [upd_ne hne]
        exact hs
    · refine ⟨_, rfl, b, _, 2, .int r, rfl, rfl, SqL.of hb, rfl, _, rfl, r, top, rfl, rfl, _, rfl, ite2 (fun e => ?_) (fun e => ?_)⟩
      · refine ⟨_, rfl, b, _, 1, .int i, rfl, rfl, SqL.of hb, rfl, _, rfl, b, _, 0, .ref sa, rfl, rfl, SqL.of hb, rfl, sa, _, rfl, .inl (SqL.of hs), i, _, rfl, rfl, _, rfl, ite2 (fun e2 => ?_) (fun e2 => ?_)⟩
        · have hlt : i < (ns.length : Int) := by
            have := of_decide_eq_true e2
            rw [List.length_map] at this
            exact this
          obtain ⟨z, hz⟩ : ∃ z, ns[i.toNat]? = some z := ⟨_, List.getElem?_eq_getElem (by omega)⟩
          have hat : atI (ns.map V.int) i = some (.int z) := by
            have := atI_nat (xs := ns.map V.int) (j := i.toNat) (v := .int z) (by rw [List.getElem?_map, hz]; rfl)
            rwa [Int.toNat_of_nonneg hi] at this
          refine ⟨_, rfl, b, _, 0, .ref sa, rfl, rfl, SqL.of hb, rfl, _, rfl, b, _, 1, .int i, rfl, rfl, SqL.of hb, rfl, sa, _, i, _, rfl, rfl, SqL.of hs, hat, ?_⟩
          refine ⟨_, rfl, b, _, 1, .int i, rfl, rfl, SqL.of hb, rfl, i, 1, rfl, rfl, _, rfl, b, _, 1, 1, rfl, rfl, hb, rfl, ?_⟩
          have hb2 : upd H b (.lst (bagL sa (i + 1) r x c)) b = some (.lst (bagL sa (i + 1) r x c)) := upd_same
          refine ⟨_, rfl, b, _, 3, .int x, rfl, rfl, SqL.of hb2, rfl, x, 48271, rfl, rfl, .inr ⟨by decide, by decide⟩, _, rfl, _, z, rfl, rfl, ?_⟩
          refine ⟨_, rfl, b, _, 1, .int (i + 1), rfl, rfl, SqL.of hb2, rfl, _, _, rfl, rfl, _, _, rfl, rfl, (by show (0 : Int) < 2147483629; decide), ?_⟩
          refine ⟨_, rfl, b, _, 3, 3, rfl, rfl, hb2, rfl, ?_⟩
          rw [upd_upd]
          obtain ⟨y, hy⟩ : ∃ y, (x * 48271 + z + (i + 1)) % 2147483629 = y := ⟨_, rfl⟩
          have ey : (bagL sa (i + 1) r x c).set 3 ((fun i j => V.int (i % j)) (x * 48271 + z + (i + 1)) 2147483629) = bagL sa (i + 1) r y c := by rw [← hy]; rfl
          rw [ey]
          have y0 : 0 ≤ y := by rw [← hy]; exact Int.emod_nonneg _ (by decide)
          have y1 : y < 2147483648 := by
            have : y < 2147483629 := by rw [← hy]; exact Int.emod_lt_of_pos _ (by decide)
            omega
          have hb3 : upd H b (.lst (bagL sa (i + 1) r y c)) b = some (.lst (bagL sa (i + 1) r y c)) := upd_same
          have hne2 : ∀ o : HO, upd H b o sa = some (.lst (ns.map V.int)) := fun o => by
            rw [upd_ne hne]
            exact hs
          refine ⟨_, rfl, 10, 18, rfl, rfl, ⟨by decide, by decide, by decide⟩, z, _, rfl, rfl, _, rfl, ite2 (fun e3 => ?_) (fun e3 => ?_)⟩
          · refine ⟨_, rfl, _, rfl, b, _, 2, 2, rfl, rfl, hb3, rfl, ?_⟩
            rw [upd_upd]
            exact rest _ _ ⟨some (.int z), i + 1, z, y, c, rfl, upd_same, hne2 _, (Mv.refl _ _).upd, by omega, y0, y1⟩
          · refine ⟨_, rfl, b, _, 2, 2, rfl, rfl, hb3, rfl, ?_⟩
            rw [upd_upd]
            exact rest _ _ ⟨some (.int z), i + 1, 0, y, c, rfl, upd_same, hne2 _, (Mv.refl _ _).upd, by omega, y0, y1⟩
        · exact rest _ _ ⟨none, i, r, x, c, rfl, hb, hs, Mv.refl _ _, hi, hx0, hx1⟩
      · exact rest _ _ ⟨none, i, r, x, c, rfl, hb, hs, Mv.refl _ _, hi, hx0, hx1⟩
theorem sc__law_of : FnScope ["_law_bag_here", "_law_some"] ["_law_bag_here", "_law_some"] (defScope s__law_of) := ⟨rfl, rfl, rfl, by decide +kernel, rfl, by decide +kernel, by decide +kernel⟩
theorem ok__law_of {f : Addr} {fd : FuncData} {k : Nat} (F : Fun K "_law_of" "_law_of" s__law_of f fd) (n_len : mg "len" = none) (c__law_pick : Cal P w K mg base k "_law_pick" ["_law_bag_here", "_law_top"] spPick) : FnOk P w K mg base CX0 (k + 1) f fd ["_law_bag_here", "_law_some"] (spOf K) := by
  have sc := sc__law_of
  refine F.ok sc (fun vs H Q E h => ?_) (fun cdv A outer s H vs Q E hr h => ?_)
  · obtain ⟨b, l, xs, rfl, _⟩ := h
    rfl
  · obtain ⟨b, l, xs, rfl, hB, hne, hl, h0, h1, q⟩ := h
    refine ⟨_, (pss_one (ps_ret (pe_ix (ix_listK K rfl) (pv 1) (pe_callC c__law_pick hr (by rfl) (pa_cons (pv 0) (pa_cons (pe_callB (call_lenK K rfl) (by rfl) n_len PySem.boot_len (pa_cons (pv 1) pa_nil)) pa_nil))) (fun _ _ => rfl)))), ?_⟩
    refine ⟨_, rfl, _, rfl, _, rfl, l, xs, rfl, .inl (SqL.of hl), b, _, rfl, hB, by omega, by omega, fun H' d mv hB' d0 d1 => ?_⟩
    obtain ⟨v, hv⟩ : ∃ v, xs[d.toNat]? = some v := ⟨_, List.getElem?_eq_getElem (by omega)⟩
    have hat : atI xs d = some v := by
      have := atI_nat (xs := xs) (j := d.toNat) (v := v) hv
      rwa [Int.toNat_of_nonneg d0] at this
    exact ⟨l, xs, d, v, rfl, rfl, SqL.of (mv l _ hne hl), hat, q H' v mv hB' (List.mem_of_getElem? hv)⟩
theorem sc__law_row : FnScope ["_law_bag_here", "_law_most", "_law_few", "_law_kind", "_law_size", "_law_k"] ["_law_bag_here", "_law_most"] (defScope s__law_row) := ⟨rfl, rfl, rfl, by decide +kernel, rfl, by decide +kernel, by decide +kernel⟩
def spRow : Sp := fun vs H Q _ => ∃ (b : Addr × Addr) (m : Int), vs = [.ref b.1, .int m] ∧ Bag b H ∧ 0 ≤ m ∧ m ≤ 1000 ∧ ∀ (H' : Hp) (p : Addr) (ns : List Int), Mv b.1 H H' → Bag b H' → H p = none → H' p = some (.lst (ns.map V.int)) → Bytes ns → (ns.length : Int) ≤ m → Q (.ref p) H'
theorem rep1 (d : Int) : ∀ m : Nat, (List.replicate m [V.int d]).flatten = (List.replicate m d).map V.int
  | 0 => rfl
  | m + 1 => by
    rw [List.replicate_succ, List.flatten_cons, rep1 d m, List.replicate_succ]
    rfl
theorem bytes_nil : Bytes [] := fun _ h => absurd h List.not_mem_nil
theorem bytes_snoc {ns : List Int} {z : Int} (h : Bytes ns) (hz : isY z) : Bytes (ns ++ [z]) := fun y hy => by
  rcases List.mem_append.mp hy with e | e
  · exact h y e
  · rw [List.mem_singleton.mp e]
    exact hz
theorem ok__law_row {f : Addr} {fd : FuncData} {k : Nat} (F : Fun K "_law_row" "_law_row" s__law_row f fd) (n_range : mg "range" = none) (c__law_pick : Cal P w K mg base k "_law_pick" ["_law_bag_here", "_law_top"] spPick) : FnOk P w K mg base CX0 (k + 1) f fd ["_law_bag_here", "_law_most"] spRow := by
  have sc := sc__law_row
  refine F.ok sc (fun vs H Q E h => ?_) (fun cdv A outer s H vs Q E hr h => ?_)
  · obtain ⟨b, m, rfl, _⟩ := h
    rfl
  · obtain ⟨b, m, rfl, hB, hm0, hm1, q⟩ := h
    refine ⟨_, (pss_cons (ps_set (i := 2) sc.nd rfl (.inr rfl) (pe_lst (pa_cons (pe_callC c__law_pick hr (by rfl) (pa_cons (pv 0) (pa_cons pe_int pa_nil))) (pa_cons (pe_callC c__law_pick hr (by rfl) (pa_cons (pv 0) (pa_cons pe_int pa_nil))) (pa_cons pe_int pa_nil)))))
 (pss_cons (ps_set (i := 3) sc.nd rfl (.inr rfl) (pe_callC c__law_pick hr (by rfl) (pa_cons (pv 0) (pa_cons pe_int pa_nil))))
 (pss_cons (ps_set (i := 4) sc.nd rfl (.inl rfl) (pe_callC c__law_pick hr (by rfl) (pa_cons (pv 0) (pa_cons (pe_op op_add (pv 1) pe_int) pa_nil))))
 (pss_cons (ps_if (pt_cmpR op_eq (pv 3) pe_int (nomark _))
  (pss_one (ps_ret (pe_lc (own := [("_law_k", 5)]) (g := gName 5) (by rfl) sc.nd (pi_range1 (by rfl) n_range (pa_cons (pv 4) pa_nil)) (blkOk_by (own := [("_law_k", 5)]) (N := ["_law_bag_here", "_law_most", "_law_few", "_law_kind", "_law_size", "_law_k"]) (sc := defScope s__law_row) (by decide +kernel)) (fun _ _ _ _ _ => (pg_name (i := 5) sc.nd rfl (Or.inl rfl))) (fun _ _ _ _ _ => pts_nil) (fun _ _ _ _ _ => (pe_callC c__law_pick hr (by rfl) (pa_cons (pv 0) (pa_cons pe_int pa_nil)))))))
  pss_nil)
 (pss_cons (ps_if (pt_cmpR op_eq (pv 3) pe_int (nomark _))
  (pss_one (ps_ret (pe_op op_rep (pe_lst (pa_cons (pe_ix (ix_listK K rfl) (pv 2) pe_int (fun _ _ => rfl)) pa_nil)) (pv 4))))
  pss_nil)
 (pss_one (ps_ret (pe_lc (own := [("_law_k", 5)]) (g := gName 5) (by rfl) sc.nd (pi_range1 (by rfl) n_range (pa_cons (pv 4) pa_nil)) (blkOk_by (own := [("_law_k", 5)]) (N := ["_law_bag_here", "_law_most", "_law_few", "_law_kind", "_law_size", "_law_k"]) (sc := defScope s__law_row) (by decide +kernel)) (fun _ _ _ _ _ => (pg_name (i := 5) sc.nd rfl (Or.inl rfl))) (fun _ _ _ _ _ => pts_nil) (fun _ _ _ _ _ => (pe_ix (ix_listK K rfl) (pv 2) (pe_callC c__law_pick hr (by rfl) (pa_cons (pv 0) (pa_cons (pv 3) pa_nil))) (fun _ _ => rfl))))))))))), ?_⟩
    refine ⟨_, rfl, b, 256, rfl, hB, by decide, by decide, fun H1 x mv1 hB1 x0 x1 => ?_⟩
    refine ⟨_, rfl, b, 256, rfl, hB1, by decide, by decide, fun H2 y mv2 hB2 y0 y1 => ?_⟩
    refine ⟨(by show 3 ≤ sizeLine; decide), fun pf nf => ?_⟩
    have h3 := (SH.nil hB2).new (o := .lst [.int x, .int y, .int 43]) nf
    have m3 : Mv b.1 H _ := (mv1.trans mv2).trans (Mv.of (same_upd (o := .lst [.int x, .int y, .int 43]) nf))
    refine ⟨_, rfl, b, 4, rfl, h3.bag, by decide, by decide, fun H4 kd mv4 hB4 k0 k1 => ?_⟩
    have h4 := h3.mv mv4 hB4
    refine ⟨_, rfl, _, rfl, _, _, rfl, rfl, b, m + 1, rfl, hB4, by omega, by omega, fun H5 sz mv5 hB5 z0 z1 => ?_⟩
    have h5 := h4.mv mv5 hB5
    have m5 : Mv b.1 H H5 := (m3.trans mv4).trans mv5
    have done : ∀ (D : Addr) (H6 : Hp) (ns : List Int), H5 D = none → Mv b.1 H5 H6 → Bag b H6 → H6 D = some (.lst (ns.map V.int)) → Bytes ns → (ns.length : Int) ≤ sz → Q (.ref D) H6 := fun D H6 ns nD mv6 hB6 eD hby hl =>
      q H6 D ns (m5.trans mv6) hB6 (m5.none (hB5.ne nD) nD) eD hby (by omega)
    refine ⟨_, rfl, rfl, _, rfl, ite2 (fun e => ?_) (fun e => ?_)⟩
    · refine ⟨_, rfl, sz, rfl, by omega, by omega, fun D nD => lc_range (lo := 0) (n := sz.toNat) (fun i H' => Mv b.1 H5 H' ∧ ∃ ns : List Int, SH b H' [(D, .lst (ns.map V.int))] ∧ Bytes ns ∧ ns.length = i) ⟨Mv.of (same_upd nD), [], (SH.nil hB5).new nD, bytes_nil, rfl⟩ ?_ ?_⟩
      · rintro i H6 hi ⟨mv6, ns, h6, hby, hl⟩
        refine ⟨rfl, tYes_by (iteT ?_)⟩
        refine ⟨_, rfl, b, 256, rfl, h6.bag, by decide, by decide, fun H7 z mv7 hB7 z0' z1' => ?_⟩
        have h7 := h6.mv mv7 hB7
        refine ⟨_, h7.get (.head _), ?_, ?_, ns ++ [z], ?_, bytes_snoc hby ⟨z0', z1'⟩, by simp [hl]⟩
        · rw [List.length_map, hl]
          exact sz4l (by omega)
        · intro c o ne hc
          rw [upd_ne (ne_of_none hc nD)]
          exact mv7 c o ne (mv6 c o ne hc)
        · rw [List.map_append]
          exact h7.put (fun q hq => absurd hq List.not_mem_nil)
      · rintro H6 ⟨mv6, ns, h6, hby, hl⟩
        exact done D H6 ns nD mv6 h6.bag (h6.get (.head _)) hby (by omega)
    · have kne : ¬ kd = 0 := fun z => e (decide_eq_true (congrArg V.int z))
      refine ⟨_, rfl, rfl, _, rfl, ite2 (fun e2 => ?_) (fun e2 => ?_)⟩
      · refine ⟨_, rfl, pf, _, 0, .int x, rfl, rfl, SqL.of (h5.get (.head _)), rfl, (by show 1 ≤ sizeLine; decide), fun p6 n6 => ?_⟩
        have h6 := h5.new (o := .lst [.int x]) n6
        refine ⟨_, rfl, p6, sz, _, rfl, rfl, h6.get (.head _), by omega, by omega, ?_, fun p7 n7 => ?_⟩
        · show 1 * sz.toNat ≤ sizeLine
          exact sz4 (by omega)
        rw [rep1]
        have s7 := (same_upd (o := .lst [.int x]) n6).trans (same_upd (o := .lst ((List.replicate sz.toNat x).map V.int)) n7)
        exact done p7 _ (List.replicate sz.toNat x) ((same_upd n6).free n7) (Mv.of s7) (hB5.same s7) upd_same (fun z hz => by rw [List.eq_of_mem_replicate hz]; exact ⟨x0, x1⟩) (by rw [List.length_replicate]; omega)
      · have kne1 : ¬ kd = 1 := fun z => e2 (decide_eq_true (congrArg V.int z))
        refine ⟨_, rfl, sz, rfl, by omega, by omega, fun D nD => lc_range (lo := 0) (n := sz.toNat) (fun i H' => Mv b.1 H5 H' ∧ ∃ ns : List Int, SH b H' [(D, .lst (ns.map V.int)), (pf, .lst [.int x, .int y, .int 43])] ∧ Bytes ns ∧ ns.length = i) ⟨Mv.of (same_upd nD), [], h5.new nD, bytes_nil, rfl⟩ ?_ ?_⟩
        · rintro i H6 hi ⟨mv6, ns, h6, hby, hl⟩
          refine ⟨rfl, tYes_by (iteT ?_)⟩
          refine ⟨_, rfl, _, rfl, _, rfl, b, kd, rfl, h6.bag, by omega, by omega, fun H7 j mv7 hB7 j0 j1 => ?_⟩
          have h7 := h6.mv mv7 hB7
          obtain ⟨z, hz, hat⟩ : ∃ z : Int, isY z ∧ atI [V.int x, V.int y, V.int 43] j = some (.int z) := by
            have : j = 0 ∨ j = 1 ∨ j = 2 := by omega
            rcases this with rfl | rfl | rfl
            · exact ⟨x, ⟨x0, x1⟩, rfl⟩
            · exact ⟨y, ⟨y0, y1⟩, rfl⟩
            · exact ⟨43, ⟨by decide, by decide⟩, rfl⟩
          refine ⟨pf, _, j, _, rfl, rfl, SqL.of (h7.get (.tail _ (.head _))), hat, ?_⟩
          refine ⟨_, h7.get (.head _), ?_, ?_, ns ++ [z], ?_, bytes_snoc hby hz, by simp [hl]⟩
          · rw [List.length_map, hl]
            exact sz4l (by omega)
          · intro c o ne hc
            rw [upd_ne (ne_of_none hc nD)]
            exact mv7 c o ne (mv6 c o ne hc)
          · rw [List.map_append]
            exact h7.put (h5.apart nD)
        · rintro H6 ⟨mv6, ns, h6, hby, hl⟩
          exact done D H6 ns nD mv6 h6.bag (h6.get (.head _)) hby (by omega)
/-! ### guards as objects -/
structure GdC (K : PySem.W.Frag) (C : Addr) : Prop where
  cls : Cls K C
  np : NoAttr K C "pause"
  ns : NoAttr K C "silent"
  nm : NoAttr K C "marks"
abbrev gdF (p s m : Int) : List (Str × V) := [(("pause" : Str), .int p), (("silent" : Str), .int s), (("marks" : Str), .int m)]
structure GS where
  p : Nat
  s : Nat
  m : Nat
def gBoth (S : GS) (row : List Int) : List Int := List.replicate S.m 43 ++ row
def gHolds (S : GS) (row : List Int) : Prop := (0 < S.m ∨ S.p ≤ S.s) ∧ (gBoth S row).length ≤ 3 ∧ (gBoth S row).count 43 = (gBoth S row).length
instance (S : GS) (row : List Int) : Decidable (gHolds S row) := by unfold gHolds; exact inferInstance
/-- a beat of a guard: the state behind, what is let through, whether the sign was found -/
def gBeat (S : GS) (row : List Int) : GS × List Int × Bool :=
  if row = [] then
    if S.s + 1 < S.p then (⟨S.p, S.s + 1, S.m⟩, [], false)
    else if S.m = 3 then (⟨S.p, S.s + 1, 0⟩, [], true) else (⟨S.p, S.s + 1, 0⟩, List.replicate S.m 43, false)
  else if gHolds S row then (⟨S.p, 0, (gBoth S row).length⟩, [], false) else (⟨S.p, 0, 0⟩, gBoth S row, false)
def tGd (C r : Addr) (S : GS) : Th := ⟨[r], fun H => ∃ dx, H r = some (.ins C dx (gdF S.p S.s S.m)), fun H H' k h => by
  obtain ⟨dx, h1⟩ := h
  exact ⟨dx, k _ (.head _) _ h1⟩, fun H h a ha => by
  obtain ⟨dx, h1⟩ := h
  rw [List.mem_singleton.mp ha]
  exact ⟨_, h1, trivial⟩⟩
def spGi (C cN : Addr) : Sp := fun vs H Q E => ∃ (r dx : Addr) (n : Int), vs = [.ref r, .int n] ∧ H r = some (.ins C dx []) ∧
  (1 ≤ n → n ≤ 20 → Q .non (upd H r (.ins C dx (gdF n n 0)))) ∧
  (n < 1 ∨ 20 < n → ∀ H' d, Same H H' → H d = none → H' d = some (.xd [(("word" : Str), .str "BadCount")]) → E (.ref cN) (some d) H')
/-- what a beat tells at t: the list at o -/
structure GdOut (C r t o : Addr) (S : GS) (row : List Int) (H H' : Hp) : Prop where
  mv : MvF [r] H H'
  nt : H t = none
  no : H o = none
  et : H' t = some (.tup [.ref o, .bl (gBeat S row).2.2])
  eo : H' o = some (.lst ((gBeat S row).2.1.map V.int))
  er : ∃ dx, H' r = some (.ins C dx (gdF (gBeat S row).1.p (gBeat S row).1.s (gBeat S row).1.m))
def spGs (C : Addr) : Sp := fun vs H Q _ => ∃ (r : Addr) (S : GS), vs = [.ref r] ∧ (tGd C r S).P H ∧ S.m ≤ 1000 ∧ ∀ (H' : Hp) (t o : Addr), GdOut C r t o S [] H H' → Q (.ref t) H'
def spGb (K : PySem.W.Frag) (C cB : Addr) : Sp := fun vs H Q E => ∃ (r a : Addr) (S : GS) (ns : List Int), vs = [.ref r, .ref a] ∧ (tGd C r S).P H ∧ SqL K H a (ns.map V.int) ∧ S.m ≤ 1000 ∧ ns.length ≤ 10000 ∧
  (Bytes ns → ∀ (H' : Hp) (t o : Addr), GdOut C r t o S ns H H' → Q (.ref t) H') ∧
  (∀ (i : Nat) (z : Int), ns[i]? = some z → ¬ isY z → Bytes (ns.take i) → ∀ H' d, Same H H' → H d = none → H' d = some (.xd [(("at" : Str), .int (i : Int)), (("word" : Str), .str "BadByte")]) → E (.ref cB) (some d) H')
def spGh (C : Addr) : Sp := fun vs H Q _ => ∃ (r : Addr) (S : GS), vs = [.ref r] ∧ (tGd C r S).P H ∧ Q (.int S.m) H
def spGt (C : Addr) : Sp := fun vs H Q _ => ∃ (r : Addr) (S : GS), vs = [.ref r] ∧ (tGd C r S).P H ∧ 1 ≤ S.p ∧ S.p ≤ 20 ∧ ∀ (H' : Hp) (r' : Addr), Same H H' → H r' = none → (tGd C r' S).P H' → Q (.ref r') H'
theorem sc_Guard___init__ : FnScope ["self", "pause"] ["self", "pause"] (defScope m_Guard___init__) := ⟨rfl, rfl, rfl, by decide +kernel, rfl, by decide +kernel, by decide +kernel⟩
theorem ok_Guard___init__ {f C cN : Addr} {fd : FuncData} {k : Nat} {kws : List (Str × V)} {t20 : Tok} (F : FunD K "__init__" "Guard.__init__" (defArgs m_Guard___init__) (defBody m_Guard___init__) (defScope m_Guard___init__) [] kws f fd) (R : GdC K C) (g_LONGEST_PAUSE : mg "LONGEST_PAUSE" = some (.int 20 t20)) (x_BadCount : XcOk P w K mg base k "BadCount" cN (spIni0 K cN "BadCount")) :
    FnOk P w K mg base (L2.CX P w) (k + 2) f fd ["self", "pause"] (spGi C cN) := by
  have sc := sc_Guard___init__
  refine F.ok sc (fun vs H Q E h => ?_) (fun cdv A outer s H vs Q E hr h => ?_)
  · obtain ⟨r, dx, n, rfl, _⟩ := h
    rfl
  · obtain ⟨r, dx, n, rfl, hr_, q, qn⟩ := h
    refine ⟨_, (pss_cons (ps_if (PW.pt (pw_or (pt_cmpR op_lt (pv 1) pe_int (nomark _)) (pw_or1 (pt_cmpR op_gt (pv 1) (pe_glob (v := .int 20) (by rfl) g_LONGEST_PAUSE ⟨_, rfl⟩) (nomark _)))))
  (pss_one (ps_raise rfl (takes_of rfl rfl rfl rfl) (pmk_c0 x_BadCount hr (by rfl))))
  pss_nil)
 (pss_cons (ps_fldK K rfl (pv 0) (pv 1))
 (pss_cons (ps_fldK K rfl (pv 0) (pv 1))
 (pss_one (ps_fldK K rfl (pv 0) pe_int))))), ?_⟩
    refine ⟨_, rfl, _, _, rfl, rfl, _, rfl, ite2 (fun e => ?_) (fun e => ?_)⟩
    · have e : n < 1 := of_decide_eq_true e
      exact iteT (mk_inner0 (fun H3 d s3 nd ed => qn (.inl e) H3 d s3 nd ed))
    · have e0 : ¬ n < 1 := fun y => e (decide_eq_true y)
      refine ⟨_, rfl, _, _, rfl, rfl, _, rfl, ite2 (fun e => ?_) (fun e => ?_)⟩
      · have e : 20 < n := of_decide_eq_true e
        exact mk_inner0 (fun H3 d s3 nd ed => qn (.inr e) H3 d s3 nd ed)
      · have e1 : ¬ (20 : Int) < n := fun y => e (decide_eq_true y)
        refine ⟨_, rfl, _, rfl, r, C, dx, _, rfl, hr_, R.cls, R.np, (by show 0 < 1000; decide), ?_⟩
        refine ⟨_, rfl, _, rfl, r, C, dx, _, rfl, upd_same, R.cls, R.ns, (by show 1 < 1000; decide), ?_⟩
        rw [upd_upd]
        refine ⟨_, rfl, r, C, dx, _, rfl, upd_same, R.cls, R.nm, (by show 2 < 1000; decide), ?_⟩
        rw [upd_upd]
        exact q (by omega) (by omega)
theorem sc_Guard_beat_of_silence : FnScope ["self", "marks"] ["self"] (defScope m_Guard_beat_of_silence) := ⟨rfl, rfl, rfl, by decide +kernel, rfl, by decide +kernel, by decide +kernel⟩
theorem ok_Guard_beat_of_silence {f C : Addr} {fd : FuncData} {k : Nat} {tM tS : Tok} (F : Fun K "beat_of_silence" "Guard.beat_of_silence" m_Guard_beat_of_silence f fd) (R : GdC K C) (g_MARK_KEY : mg "MARK_KEY" = some (.int 43 tM)) (g_SIGN_MARKS : mg "SIGN_MARKS" = some (.int 3 tS)) :
    FnOk P w K mg base CX0 (k + 1) f fd ["self"] (spGs C) := by
  have sc := sc_Guard_beat_of_silence
  refine F.ok sc (fun vs H Q E h => ?_) (fun cdv A outer s H vs Q E hr h => ?_)
  · obtain ⟨r, S, rfl, _⟩ := h
    rfl
  · obtain ⟨r, S, rfl, ⟨dx, hins⟩, hm, q⟩ := h
    refine ⟨_, (pss_cons (ps_fldaugK K rfl (pv 0) pe_int in_add)
 (pss_cons (ps_if (pt_cmpR op_lt (pe_fldK K rfl (pv 0)) (pe_fldK K rfl (pv 0)) (nomark _))
  (pss_one (ps_ret (pe_tup (pa_cons (pe_lst pa_nil) (pa_cons pe_bl pa_nil)))))
  pss_nil)
 (pss_cons (ps_set (i := 1) sc.nd rfl (.inl rfl) (pe_fldK K rfl (pv 0)))
 (pss_cons (ps_fldK K rfl (pv 0) pe_int)
 (pss_cons (ps_if (pt_cmpR op_eq (pv 1) (pe_glob (v := .int 3) (by rfl) g_SIGN_MARKS ⟨_, rfl⟩) (nomark _))
  (pss_one (ps_ret (pe_tup (pa_cons (pe_lst pa_nil) (pa_cons pe_bl pa_nil)))))
  pss_nil)
 (pss_one (ps_ret (pe_tup (pa_cons (pe_op op_rep (pe_lst (pa_cons (pe_glob (v := .int 43) (by rfl) g_MARK_KEY ⟨_, rfl⟩) pa_nil)) (pv 1)) (pa_cons pe_bl pa_nil)))))))))), ?_⟩
    refine ⟨_, rfl, r, C, dx, _, _, rfl, hins, R.cls, R.ns, rfl, _, _, rfl, rfl, dx, _, hins, (by show 3 < 1000; decide), ?_⟩
    have ep : putF "silent" (.int ((S.s : Int) + 1)) (gdF S.p S.s S.m) = gdF S.p (S.s + 1 : Nat) S.m := rfl
    rw [ep]
    have m1 : MvF [r] H (upd H r (.ins C dx (gdF S.p (S.s + 1 : Nat) S.m))) := (MvF.refl [r] H).upd (.head _)
    have e1 : upd H r (.ins C dx (gdF S.p (S.s + 1 : Nat) S.m)) r = some (.ins C dx (gdF S.p (S.s + 1 : Nat) S.m)) := upd_same
    generalize upd H r (.ins C dx (gdF S.p (S.s + 1 : Nat) S.m)) = H1 at m1 e1 ⊢
    have gb : gBeat S [] = if S.s + 1 < S.p then (⟨S.p, S.s + 1, S.m⟩, [], false) else if S.m = 3 then (⟨S.p, S.s + 1, 0⟩, [], true) else (⟨S.p, S.s + 1, 0⟩, List.replicate S.m 43, false) := if_pos rfl
    refine ⟨_, rfl, r, C, dx, _, _, rfl, e1, R.cls, R.ns, rfl, _, rfl, r, C, dx, _, _, rfl, e1, R.cls, R.np, rfl, _, _, rfl, rfl, _, rfl, ite2 (fun e => ?_) (fun e => ?_)⟩
    · have e : S.s + 1 < S.p := by have := of_decide_eq_true e; omega
      refine ⟨Nat.zero_le _, fun o no => ⟨(by show 2 ≤ sizeLine; decide), fun t nt => ?_⟩⟩
      have nto : o ≠ t := ne_of_none upd_same nt
      have s1 := same_upd (o := .lst []) no
      have s2 := s1.trans (same_upd (o := .tup [.ref o, .bl false]) nt)
      refine q _ t o ⟨m1.same s2, m1.free (s1.free nt), m1.free no, ?_, ?_, dx, ?_⟩
      · rw [upd_same, gb, if_pos e]
      · rw [upd_ne nto, upd_same, gb, if_pos e]
        rfl
      · rw [s2 _ _ e1, gb, if_pos e]
    · have e : ¬ S.s + 1 < S.p := fun y => e (decide_eq_true (by omega))
      refine ⟨_, rfl, r, C, dx, _, _, rfl, e1, R.cls, R.nm, rfl, ?_⟩
      refine name_by ?_
      refine ⟨_, rfl, r, C, dx, _, rfl, e1, R.cls, R.nm, (by show 3 < 1000; decide), ?_⟩
      have ep2 : putF "marks" (.int 0) (gdF S.p (S.s + 1 : Nat) S.m) = gdF S.p (S.s + 1 : Nat) 0 := rfl
      rw [ep2]
      have m2 : MvF [r] H (upd H1 r (.ins C dx (gdF S.p (S.s + 1 : Nat) 0))) := m1.upd (.head _)
      have e2 : upd H1 r (.ins C dx (gdF S.p (S.s + 1 : Nat) 0)) r = some (.ins C dx (gdF S.p (S.s + 1 : Nat) 0)) := upd_same
      generalize upd H1 r (.ins C dx (gdF S.p (S.s + 1 : Nat) 0)) = H2 at m2 e2 ⊢
      refine ⟨_, rfl, rfl, _, rfl, ite2 (fun e3 => ?_) (fun e3 => ?_)⟩
      · have e3 : S.m = 3 := by have := V.int.inj (of_decide_eq_true e3); omega
        refine ⟨Nat.zero_le _, fun o no => ⟨(by show 2 ≤ sizeLine; decide), fun t nt => ?_⟩⟩
        have nto : o ≠ t := ne_of_none upd_same nt
        have s1 := same_upd (o := .lst []) no
        have s2 := s1.trans (same_upd (o := .tup [.ref o, .bl true]) nt)
        refine q _ t o ⟨m2.same s2, m2.free (s1.free nt), m2.free no, ?_, ?_, dx, ?_⟩
        · rw [upd_same, gb, if_neg e, if_pos e3]
        · rw [upd_ne nto, upd_same, gb, if_neg e, if_pos e3]
          rfl
        · rw [s2 _ _ e2, gb, if_neg e, if_pos e3]
          rfl
      · have e3 : ¬ S.m = 3 := fun y => e3 (decide_eq_true (by rw [y]; rfl))
        refine ⟨(by show 1 ≤ sizeLine; decide), fun p3 n3 => ?_⟩
        refine ⟨_, rfl, p3, (S.m : Int), _, rfl, rfl, upd_same, by omega, by omega, ?_, fun o no => ?_⟩
        · show 1 * (S.m : Int).toNat ≤ sizeLine
          exact sz4 (by omega)
        rw [rep1, Int.toNat_natCast]
        refine ⟨(by show 2 ≤ sizeLine; decide), fun t nt => ?_⟩
        have nto : o ≠ t := ne_of_none upd_same nt
        have s0 := same_upd (o := .lst [.int 43]) n3
        have s1 := s0.trans (same_upd (o := .lst ((List.replicate S.m (43 : Int)).map V.int)) no)
        have s2 := s1.trans (same_upd (o := .tup [.ref o, .bl false]) nt)
        refine q _ t o ⟨m2.same s2, m2.free (s1.free nt), m2.free (s0.free no), ?_, ?_, dx, ?_⟩
        · rw [upd_same, gb, if_neg e, if_neg e3]
        · rw [upd_ne nto, upd_same, gb, if_neg e, if_neg e3]
        · rw [s2 _ _ e2, gb, if_neg e, if_neg e3]
          rfl
theorem sc_Guard_beat : FnScope ["self", "row", "may_be_sign", "both"] ["self", "row"] (defScope m_Guard_beat) := ⟨rfl, rfl, rfl, by decide +kernel, rfl, by decide +kernel, by decide +kernel⟩
theorem ok_Guard_beat {f C cB : Addr} {fd : FuncData} {k : Nat} {tM tS : Tok} (F : Fun K "beat" "Guard.beat" m_Guard_beat f fd) (R : GdC K C) (n_len : mg "len" = none) (n_list : mg "list" = none) (g_MARK_KEY : mg "MARK_KEY" = some (.int 43 tM)) (g_SIGN_MARKS : mg "SIGN_MARKS" = some (.int 3 tS))
    (c_check_bytes : CalX P w K mg base k "check_bytes" ["row"] (spCheckY K cB)) (c_Guard_beat_of_silence : CalM CX0 P w K mg base k C "beat_of_silence" ["self"] (spGs C)) :
    FnOk P w K mg base (L2.CX P w) (k + 1) f fd ["self", "row"] (spGb K C cB) := by
  have sc := sc_Guard_beat
  refine F.okX sc (fun vs H Q E h => ?_) (fun cdv A outer s H vs Q E hr h => ?_)
  · obtain ⟨r, a, S, ns, rfl, _⟩ := h
    rfl
  · obtain ⟨r, a, S, ns, rfl, ⟨dx, hins⟩, hS, hm, hlen, q, qe⟩ := h
    refine ⟨_, (pss_cons (ps_expr (pe_callP c_check_bytes hr (passes_call (takes_of rfl rfl rfl rfl) (fun _ _ _ _ h => h)) (by rfl) (pa_cons (pv 1) pa_nil)))
 (pss_cons (ps_if (pt_cmpR op_eq (pe_callB (call_lenK K rfl) (by rfl) n_len PySem.boot_len (pa_cons (pv 1) pa_nil)) pe_int (nomark _))
  (pss_one (ps_ret (pe_methC0 (pv 0) c_Guard_beat_of_silence hr)))
  pss_nil)
 (pss_cons (ps_set (i := 2) sc.nd rfl (.inl rfl) (pe_or (pe_cmpR op_gt (pe_fldK K rfl (pv 0)) pe_int (nomark _)) (pe_one (pe_cmpR op_ge (pe_fldK K rfl (pv 0)) (pe_fldK K rfl (pv 0)) (nomark _)))))
 (pss_cons (ps_fldK K rfl (pv 0) pe_int)
 (pss_cons (ps_set (i := 3) sc.nd rfl (.inl rfl) (pe_op op_cat (pe_op op_rep (pe_lst (pa_cons (pe_glob (v := .int 43) (by rfl) g_MARK_KEY ⟨_, rfl⟩) pa_nil)) (pe_fldK K rfl (pv 0))) (pe_callTy (call_listK K rfl) (by rfl) n_list (by decide +kernel) (pa_cons (pv 1) pa_nil))))
 (pss_cons (ps_if (PW.pt (pw_and (pt_val (pv 2)) (pw_and (pt_cmpR op_le (pe_callB (call_lenK K rfl) (by rfl) n_len PySem.boot_len (pa_cons (pv 3) pa_nil)) (pe_glob (v := .int 3) (by rfl) g_SIGN_MARKS ⟨_, rfl⟩) (nomark _)) (pw_and1 (pt_cmpR op_eq (pe_bmK K rfl PySem.F.plainAttrs_list PySem.F.slot_list_count PySem.F.type_list_count (mt_lcountK K rfl) (pv 3) (pa_cons (pe_glob (v := .int 43) (by rfl) g_MARK_KEY ⟨_, rfl⟩) pa_nil)) (pe_callB (call_lenK K rfl) (by rfl) n_len PySem.boot_len (pa_cons (pv 3) pa_nil)) (nomark _))))))
  (pss_cons (ps_fldK K rfl (pv 0) (pe_callB (call_lenK K rfl) (by rfl) n_len PySem.boot_len (pa_cons (pv 3) pa_nil)))
 (pss_one (ps_ret (pe_tup (pa_cons (pe_lst pa_nil) (pa_cons pe_bl pa_nil))))))
  pss_nil)
 (pss_cons (ps_fldK K rfl (pv 0) pe_int)
 (pss_one (ps_ret (pe_tup (pa_cons (pv 3) (pa_cons pe_bl pa_nil)))))))))))), ?_⟩
    refine ⟨_, rfl, a, ns, rfl, hS, by omega, (fun hY H1 s1 => ?_), qe⟩
    have q := q hY
    have i1 := s1 _ _ hins
    have hS1 := s1.seq hS
    refine ⟨_, rfl, a, _, rfl, .inl hS1, rfl, _, rfl, ite2 (fun e => ?_) (fun e => ?_)⟩
    · have e : ns = [] := by
        have := V.int.inj (of_decide_eq_true e)
        rw [List.length_map] at this
        exact List.length_eq_zero_iff.mp (by omega)
      subst e
      refine ⟨_, rfl, r, dx, _, rfl, i1, rfl, r, S, rfl, ⟨dx, i1⟩, hm, fun H2 t o G => ?_⟩
      exact q H2 t o ⟨(MvF.of s1).trans G.mv, s1.free G.nt, s1.free G.no, G.et, G.eo, G.er⟩
    · have e : ¬ ns = [] := fun y => e (decide_eq_true (by rw [y]; rfl))
      have gb : gBeat S ns = if gHolds S ns then (⟨S.p, 0, (gBoth S ns).length⟩, [], false) else (⟨S.p, 0, 0⟩, gBoth S ns, false) := if_neg e
      unfold tNext
      dsimp only
      refine asg_by (J := fun v H2 => v = .bl (decide (0 < S.m ∨ S.p ≤ S.s)) ∧ H1 = H2) ?_ (fun rest => ?_)
      · rintro v H2 ⟨rfl, rfl⟩
        refine ⟨_, rfl, r, C, dx, _, rfl, i1, R.cls, R.ns, (by show 3 < 1000; decide), ?_⟩
        have ep : putF "silent" (.int 0) (gdF S.p S.s S.m) = gdF S.p 0 S.m := rfl
        rw [ep]
        have m2 : MvF [r] H (upd H1 r (.ins C dx (gdF S.p 0 S.m))) := (MvF.of s1).upd (.head _)
        have e2 : upd H1 r (.ins C dx (gdF S.p 0 S.m)) r = some (.ins C dx (gdF S.p 0 S.m)) := upd_same
        have hS2 : SqL K (upd H1 r (.ins C dx (gdF S.p 0 S.m))) a (ns.map V.int) := by
          refine lk_l (lk_mv (b := r) (Mv.refl r H1).upd ?_) hS1
          intro o ho
          rw [i1] at ho
          cases ho
          rintro (⟨_, z⟩ | ⟨_, z⟩ | ⟨_, _, z⟩) <;> cases z
        generalize upd H1 r (.ins C dx (gdF S.p 0 S.m)) = H2 at m2 e2 hS2 ⊢
        refine ⟨(by show 1 ≤ sizeLine; decide), fun p3 n3 => ?_⟩
        have s3 := same_upd (o := .lst [.int 43]) n3
        refine ⟨_, rfl, r, C, dx, _, _, rfl, s3 _ _ e2, R.cls, R.nm, rfl, p3, (S.m : Int), _, rfl, rfl, upd_same, by omega, by omega, ?_, fun p4 n4 => ?_⟩
        · show 1 * (S.m : Int).toNat ≤ sizeLine
          exact sz4 (by omega)
        rw [rep1, Int.toNat_natCast]
        have s4 := s3.trans (same_upd (o := .lst ((List.replicate S.m (43 : Int)).map V.int)) n4)
        refine ⟨_, rfl, a, _, rfl, .inl (s4.seq hS2), fun p5 n5 => ?_⟩
        have s5 := s4.trans (same_upd (o := .lst (ns.map V.int)) n5)
        refine ⟨p4, p5, _, _, rfl, rfl, same_upd n5 _ _ upd_same, upd_same, ?_, fun p6 n6 => ?_⟩
        · rw [List.length_map, List.length_map, List.length_replicate]
          exact sz4 (by omega)
        rw [← List.map_append]
        have eb : List.replicate S.m (43 : Int) ++ ns = gBoth S ns := rfl
        rw [eb]
        have s6 := s5.trans (same_upd (o := .lst ((gBoth S ns).map V.int)) n6)
        have m6 := m2.same s6
        have e6 := s6 _ _ e2
        have eb6 : upd (upd (upd (upd H2 p3 (.lst [.int 43])) p4 (.lst ((List.replicate S.m (43 : Int)).map V.int))) p5 (.lst (ns.map V.int))) p6 (.lst ((gBoth S ns).map V.int)) p6 = some (.lst ((gBoth S ns).map V.int)) := upd_same
        have n6' : H p6 = none := m2.free (s5.free n6)
        have hbl : (gBoth S ns).length ≤ 11000 := by
          unfold gBoth
          rw [List.length_append, List.length_replicate]
          omega
        generalize upd (upd (upd (upd H2 p3 (.lst [.int 43])) p4 (.lst ((List.replicate S.m (43 : Int)).map V.int))) p5 (.lst (ns.map V.int))) p6 (.lst ((gBoth S ns).map V.int)) = H6 at m6 e6 eb6 ⊢
        have r6 : p6 ≠ r := (ne_of_none hins n6').symm
        have no : ¬ gHolds S ns → sFld K (tVar 0) (tC (.int 0)) "marks" { nx := tRet (tTup (tCons (tVar 3) (tCons (tC (.bl false)) tNil))) { nx := fun _ H' => Q V.non H', rt := Q }, rt := Q } [some (.ref r), some (.ref a), some (.bl (decide (0 < S.m ∨ S.p ≤ S.s))), some (.ref p6)] H6 := by
          intro nh
          refine ⟨_, rfl, r, C, dx, _, rfl, e6, R.cls, R.nm, (by show 3 < 1000; decide), ?_⟩
          have ep2 : putF "marks" (.int 0) (gdF S.p 0 S.m) = gdF S.p 0 0 := rfl
          rw [ep2]
          refine ⟨_, rfl, (by show 2 ≤ sizeLine; decide), fun t nt => ?_⟩
          have e7 : upd H6 r (.ins C dx (gdF S.p 0 0)) r = some (.ins C dx (gdF S.p 0 0)) := upd_same
          have m7 := m6.upd (o := .ins C dx (gdF S.p 0 0)) (p := r) (.head _)
          have eb7 : upd H6 r (.ins C dx (gdF S.p 0 0)) p6 = some (.lst ((gBoth S ns).map V.int)) := by rw [upd_ne r6]; exact eb6
          generalize upd H6 r (.ins C dx (gdF S.p 0 0)) = H7 at e7 m7 eb7 nt ⊢
          have s8 := same_upd (o := .tup [.ref p6, .bl false]) nt
          refine q _ t p6 ⟨m7.same s8, m7.free nt, n6', ?_, ?_, dx, ?_⟩
          · rw [upd_same, gb, if_neg nh]
          · rw [s8 _ _ eb7, gb, if_neg nh]
          · rw [s8 _ _ e7, gb, if_neg nh]
            rfl
        refine ⟨_, rfl, _, rfl, ite2 (fun e3 => ?_) (fun e3 => ?_)⟩
        · have e3 : 0 < S.m ∨ S.p ≤ S.s := of_decide_eq_true e3
          refine ⟨_, rfl, p6, _, rfl, .inl (SqL.of eb6), _, _, rfl, rfl, _, rfl, ite2 (fun e4 => ?_) (fun e4 => ?_)⟩
          · have e4 : (gBoth S ns).length ≤ 3 := by
              have := of_decide_eq_true e4
              rw [List.length_map] at this
              omega
            refine ⟨_, rfl, .inl ⟨rfl, _, SqL.of eb6⟩, p6, _, 43, rfl, rfl, SqL.of eb6, _, rfl, p6, _, rfl, .inl (SqL.of eb6), rfl, _, rfl, ite2 (fun e5 => ?_) (fun e5 => ?_)⟩
            · have e5 : (gBoth S ns).count 43 = (gBoth S ns).length := by
                have := V.int.inj (of_decide_eq_true e5)
                rw [List.length_map] at this
                omega
              have yes : gHolds S ns := ⟨e3, e4, e5⟩
              refine ⟨_, rfl, p6, _, rfl, .inl (SqL.of eb6), _, rfl, r, C, dx, _, rfl, e6, R.cls, R.nm, (by show 3 < 1000; decide), ?_⟩
              rw [List.length_map]
              have ep2 : putF "marks" (.int ((gBoth S ns).length : Nat)) (gdF S.p 0 S.m) = gdF S.p 0 (gBoth S ns).length := rfl
              rw [ep2]
              have e7 : upd H6 r (.ins C dx (gdF S.p 0 (gBoth S ns).length)) r = some (.ins C dx (gdF S.p 0 (gBoth S ns).length)) := upd_same
              have m7 := m6.upd (o := .ins C dx (gdF S.p 0 (gBoth S ns).length)) (p := r) (.head _)
              generalize upd H6 r (.ins C dx (gdF S.p 0 (gBoth S ns).length)) = H7 at e7 m7 ⊢
              refine ⟨Nat.zero_le _, fun o no => ⟨(by show 2 ≤ sizeLine; decide), fun t nt => ?_⟩⟩
              have nto : o ≠ t := ne_of_none upd_same nt
              have t1 := same_upd (o := .lst []) no
              have t2 := t1.trans (same_upd (o := .tup [.ref o, .bl false]) nt)
              refine q _ t o ⟨m7.same t2, m7.free (t1.free nt), m7.free no, ?_, ?_, dx, ?_⟩
              · rw [upd_same, gb, if_pos yes]
              · rw [upd_ne nto, upd_same, gb, if_pos yes]
                rfl
              · rw [t2 _ _ e7, gb, if_pos yes]
                rfl
            · refine no (fun h => e5 (decide_eq_true ?_))
              rw [h.2.2, List.length_map]
          · refine iteF (no (fun h => e4 (decide_eq_true ?_)))
            have := h.2.1
            rw [List.length_map]
            omega
        · refine iteF (no (fun h => e3 (decide_eq_true h.1)))
      · refine ⟨_, rfl, r, C, dx, _, _, rfl, i1, R.cls, R.nm, rfl, _, _, rfl, rfl, _, rfl, ite2 (fun e3 => ?_) (fun e3 => ?_)⟩
        · have e3 : 0 < S.m := by have := of_decide_eq_true e3; omega
          exact rest _ _ ⟨by rw [decide_eq_true (.inl e3 : 0 < S.m ∨ S.p ≤ S.s)], rfl⟩
        · have e3 : ¬ 0 < S.m := fun y => e3 (decide_eq_true (by omega))
          refine ⟨_, rfl, r, C, dx, _, _, rfl, i1, R.cls, R.ns, rfl, _, rfl, r, C, dx, _, _, rfl, i1, R.cls, R.np, rfl, _, _, rfl, rfl, ?_⟩
          exact rest _ _ ⟨congrArg V.bl (decide_eq_decide.mpr ⟨fun h => .inr (by omega), fun h => h.elim (fun y => absurd y e3) (fun y => by omega)⟩), rfl⟩
theorem sc_Guard_held : FnScope ["self"] ["self"] (defScope m_Guard_held) := ⟨rfl, rfl, rfl, by decide +kernel, rfl, by decide +kernel, by decide +kernel⟩
theorem ok_Guard_held {f C : Addr} {fd : FuncData} {k : Nat} (F : Fun K "held" "Guard.held" m_Guard_held f fd) (R : GdC K C) : FnOk P w K mg base CX0 (k + 1) f fd ["self"] (spGh C) := by
  have sc := sc_Guard_held
  refine F.ok sc (fun vs H Q E h => ?_) (fun cdv A outer s H vs Q E hr h => ?_)
  · obtain ⟨r, S, rfl, _⟩ := h
    rfl
  · obtain ⟨r, S, rfl, ⟨dx, hins⟩, q⟩ := h
    refine ⟨_, (pss_one (ps_ret (pe_fldK K rfl (pv 0)))), ?_⟩
    exact ⟨_, rfl, r, C, dx, _, _, rfl, hins, R.cls, R.nm, rfl, q⟩
theorem sc__law_same : FnScope ["_law_found", "_law_due", "_law_spot"] ["_law_found", "_law_due"] (defScope s__law_same) := ⟨rfl, rfl, rfl, by decide +kernel, rfl, by decide +kernel, by decide +kernel⟩
theorem ok__law_same {f : Addr} {fd : FuncData} (F : Fun K "_law_same" "_law_same" s__law_same f fd) (gS : mg "_law_same" = some (.ref f)) (bS : Binds K fd ["_law_found", "_law_due"] []) (n_len : mg "len" = none) (n_all : mg "all" = none) (n_bool : mg "bool" = none) (n_int : mg "int" = none)
    (n_isinstance : mg "isinstance" = none) (n_list : mg "list" = none) (n_range : mg "range" = none) (n_str : mg "str" = none) (n_tuple : mg "tuple" = none) : ∀ n : Nat, FnOk P w K mg base CX0 n f fd ["_law_found", "_law_due"] (spSame K n)
  | 0 => ⟨fun vs H Q E h => by obtain ⟨x, y, d, _, _, _, h, _⟩ := h; exact h.elim, fun A outer s H args us vs Q E hr e0 bt r h => by obtain ⟨x, y, d, _, _, _, h, _⟩ := h; exact h.elim⟩
  | n + 1 => by
    have c__law_same : Cal P w K mg base n "_law_same" ["_law_found", "_law_due"] (spSame K n) := ⟨f, fd, ok__law_same F gS bS n_len n_all n_bool n_int n_isinstance n_list n_range n_str n_tuple n, gS, F.kp, bS⟩
    have sc := sc__law_same
    refine F.ok sc (fun vs H Q E h => ?_) (fun cdv A outer s H vs Q E hr h => ?_)
    · obtain ⟨x, y, d, rfl, _⟩ := h
      rfl
    · obtain ⟨x, y, d, rfl, dx, dy, dn, sd, q⟩ := h
      have tx := ty_dp dx
      have ty := ty_dp dy
      refine ⟨_, (pss_cons (ps_if (pt_cmpR op_isN (pv 1) pe_non (nomark _))
  (pss_one (ps_ret (pe_cmpR op_isN (pv 0) pe_non (nomark _))))
  pss_nil)
 (pss_cons (ps_if (PW.pt (pw_or (pt_val (pe_callB (call_isiK1 K rfl) (by rfl) n_isinstance (by decide +kernel) (pa_cons (pv 1) (pa_cons (pe_bltn (v := .ty "bool") (by rfl) n_bool (by decide +kernel) rfl) pa_nil)))) (pw_or1 (pt_val (pe_callB (call_isiK1 K rfl) (by rfl) n_isinstance (by decide +kernel) (pa_cons (pv 0) (pa_cons (pe_bltn (v := .ty "bool") (by rfl) n_bool (by decide +kernel) rfl) pa_nil)))))))
  (pss_one (ps_ret (pe_and (pe_callB (call_isiK1 K rfl) (by rfl) n_isinstance (by decide +kernel) (pa_cons (pv 1) (pa_cons (pe_bltn (v := .ty "bool") (by rfl) n_bool (by decide +kernel) rfl) pa_nil))) (pe_and (pe_callB (call_isiK1 K rfl) (by rfl) n_isinstance (by decide +kernel) (pa_cons (pv 0) (pa_cons (pe_bltn (v := .ty "bool") (by rfl) n_bool (by decide +kernel) rfl) pa_nil))) (pe_one (pe_cmpR (op_eqDK K rfl hr.units) (pv 0) (pv 1) (nomark _)))))))
  pss_nil)
 (pss_cons (ps_if (pt_val (pe_callB (call_isiTK K rfl) (by rfl) n_isinstance (by decide +kernel) (pa_cons (pv 1) (pa_cons (pe_tup (pa_cons (pe_bltn (v := .ty "int") (by rfl) n_int (by decide +kernel) rfl) (pa_cons (pe_bltn (v := .ty "str") (by rfl) n_str (by decide +kernel) rfl) pa_nil))) pa_nil))))
  (pss_one (ps_ret (pe_and (pe_callB (call_isiTK K rfl) (by rfl) n_isinstance (by decide +kernel) (pa_cons (pv 0) (pa_cons (pe_tup (pa_cons (pe_bltn (v := .ty "int") (by rfl) n_int (by decide +kernel) rfl) (pa_cons (pe_bltn (v := .ty "str") (by rfl) n_str (by decide +kernel) rfl) pa_nil))) pa_nil))) (pe_and (pe_cmpR op_eq (pe_callB (call_isiK1 K rfl) (by rfl) n_isinstance (by decide +kernel) (pa_cons (pv 0) (pa_cons (pe_bltn (v := .ty "int") (by rfl) n_int (by decide +kernel) rfl) pa_nil))) (pe_callB (call_isiK1 K rfl) (by rfl) n_isinstance (by decide +kernel) (pa_cons (pv 1) (pa_cons (pe_bltn (v := .ty "int") (by rfl) n_int (by decide +kernel) rfl) pa_nil))) (nomark _)) (pe_one (pe_cmpR (op_eqDK K rfl hr.units) (pv 0) (pv 1) (nomark _)))))))
  pss_nil)
 (pss_cons (ps_if (PW.pt (pw_or (pt_cmpR op_ne (pe_callB (call_isiK1 K rfl) (by rfl) n_isinstance (by decide +kernel) (pa_cons (pv 1) (pa_cons (pe_bltn (v := .ty "list") (by rfl) n_list (by decide +kernel) rfl) pa_nil))) (pe_callB (call_isiK1 K rfl) (by rfl) n_isinstance (by decide +kernel) (pa_cons (pv 0) (pa_cons (pe_bltn (v := .ty "list") (by rfl) n_list (by decide +kernel) rfl) pa_nil))) (nomark _)) (pw_or1 (pt_cmpR op_ne (pe_callB (call_isiK1 K rfl) (by rfl) n_isinstance (by decide +kernel) (pa_cons (pv 1) (pa_cons (pe_bltn (v := .ty "tuple") (by rfl) n_tuple (by decide +kernel) rfl) pa_nil))) (pe_callB (call_isiK1 K rfl) (by rfl) n_isinstance (by decide +kernel) (pa_cons (pv 0) (pa_cons (pe_bltn (v := .ty "tuple") (by rfl) n_tuple (by decide +kernel) rfl) pa_nil))) (nomark _)))))
  (pss_one (ps_ret pe_bl))
  pss_nil)
 (pss_cons (ps_if (PW.pt (pw_or (pt_not (pt_val (pe_callB (call_isiTK K rfl) (by rfl) n_isinstance (by decide +kernel) (pa_cons (pv 0) (pa_cons (pe_tup (pa_cons (pe_bltn (v := .ty "list") (by rfl) n_list (by decide +kernel) rfl) (pa_cons (pe_bltn (v := .ty "tuple") (by rfl) n_tuple (by decide +kernel) rfl) pa_nil))) pa_nil))))) (pw_or1 (pt_cmpR op_ne (pe_callB (call_lenK K rfl) (by rfl) n_len PySem.boot_len (pa_cons (pv 0) pa_nil)) (pe_callB (call_lenK K rfl) (by rfl) n_len PySem.boot_len (pa_cons (pv 1) pa_nil)) (nomark _)))))
  (pss_one (ps_ret pe_bl))
  pss_nil)
 (pss_one (ps_ret (pe_callB (cr_allK K rfl rfl) (by rfl) n_all (by decide +kernel) (pa_cons (pe_lc (own := [("_law_spot", 2)]) (g := gName 2) (by rfl) sc.nd (pi_range1 (by rfl) n_range (pa_cons (pe_callB (call_lenK K rfl) (by rfl) n_len PySem.boot_len (pa_cons (pv 1) pa_nil)) pa_nil)) (blkOk_by (own := [("_law_spot", 2)]) (N := ["_law_found", "_law_due", "_law_spot"]) (sc := defScope s__law_same) (by decide +kernel)) (fun _ _ _ _ _ => (pg_name (i := 2) sc.nd rfl (Or.inl rfl))) (fun _ _ _ _ _ => pts_nil) (fun _ _ _ _ _ => (pe_callC c__law_same hr (by rfl) (pa_cons (pe_ix (ix_seqK K rfl) (pv 0) (pv 2) (fun _ _ => rfl)) (pa_cons (pe_ix (ix_seqK K rfl) (pv 1) (pv 2) (fun _ _ => rfl)) pa_nil))))) pa_nil))))))))), ?_⟩
      have er : PyData.eqv d d = true := SeqAt.eqv_refl d (SeqAt.canLay_of_shaped sd)
      rcases dn with ⟨b, rfl⟩ | ⟨i, rfl⟩ | ⟨z, rfl⟩ | rfl | ⟨ds, hd, hlen, hn⟩
      · have tx : TyX K H x (.type "bool") := tx
        have ty : TyX K H y (.type "bool") := ty
        have kb : PySem.W.kitOne K (.type "bool") (.type "bool") = some true := kit_ty (by decide +kernel)
        have dx' := dx
        have dy' := dy
        cases dx
        cases dy
        refine ⟨_, rfl, rfl, _, rfl, iteF ?_⟩
        refine ⟨_, rfl, _, _, _, _, true, rfl, .ty "bool", ty, kb, _, rfl, iteT ?_⟩
        refine iteT ?_
        refine ⟨_, rfl, _, _, _, _, true, rfl, .ty "bool", ty, kb, true, rfl, iteT ?_⟩
        refine ⟨_, rfl, _, _, _, _, true, rfl, .ty "bool", tx, kb, true, rfl, iteT ?_⟩
        refine ⟨_, rfl, _, rfl, .bool b, .bool b, dx', dy', sd, sd, ?_⟩
        rw [er]
        exact q _ (Same.refl _)
      · have tx : TyX K H x (.type "int") := tx
        have ty : TyX K H y (.type "int") := ty
        have kb : PySem.W.kitOne K (.type "int") (.type "bool") = some false := kit_ty (by decide +kernel)
        have ki : PySem.W.kitOne K (.type "int") (.type "int") = some true := kit_ty (by decide +kernel)
        have dx' := dx
        have dy' := dy
        cases dx
        cases dy
        refine ⟨_, rfl, rfl, _, rfl, iteF ?_⟩
        refine ⟨_, rfl, _, _, _, _, false, rfl, .ty "bool", ty, kb, _, rfl, iteF ?_⟩
        refine ⟨_, rfl, _, _, _, _, false, rfl, .ty "bool", tx, kb, _, rfl, iteF ?_⟩
        refine ⟨_, rfl, (by show 2 ≤ sizeLine; decide), fun p np => ?_⟩
        have s1 : Same H (upd H p (.tup [.ty "int", .ty "str"])) := same_upd np
        refine ⟨_, p, _, _, _, true, rfl, upd_same, .cons (.ty "int") (.cons (.ty "str") .nil), .base (.int i), kitAny_cons ki (fun z => nomatch z) (fun _ => rfl), _, rfl, iteT ?_⟩
        refine ⟨_, rfl, (by show 2 ≤ sizeLine; decide), fun p2 np2 => ?_⟩
        have s2 : Same _ (upd _ p2 (.tup [.ty "int", .ty "str"])) := same_upd np2
        refine ⟨_, p2, _, _, _, true, rfl, upd_same, .cons (.ty "int") (.cons (.ty "str") .nil), .base (.int i), kitAny_cons ki (fun z => nomatch z) (fun _ => rfl), true, rfl, iteT ?_⟩
        refine ⟨_, rfl, _, _, _, _, true, rfl, .ty "int", .base (.int i), ki, ?_⟩
        refine ⟨_, rfl, _, _, _, _, true, rfl, .ty "int", .base (.int i), ki, rfl, true, rfl, iteT ?_⟩
        refine ⟨_, rfl, _, rfl, .int i, .int i, .int i, .int i, sd, sd, ?_⟩
        rw [er]
        exact q _ (s1.trans s2)
      · have tx : TyX K H x (.type "str") := tx
        have ty : TyX K H y (.type "str") := ty
        have kb : PySem.W.kitOne K (.type "str") (.type "bool") = some false := kit_ty (by decide +kernel)
        have ki : PySem.W.kitOne K (.type "str") (.type "int") = some false := kit_ty (by decide +kernel)
        have ks : PySem.W.kitOne K (.type "str") (.type "str") = some true := kit_ty (by decide +kernel)
        have kk : PySem.W.kitAny K (.type "str") [.type "int", .type "str"] = some true := kitAny_cons ki (fun _ => kitAny_cons ks (fun z => nomatch z) (fun _ => rfl)) (fun z => nomatch z)
        cases dx
        cases dy
        refine ⟨_, rfl, rfl, _, rfl, iteF ?_⟩
        refine ⟨_, rfl, _, _, _, _, false, rfl, .ty "bool", ty, kb, _, rfl, iteF ?_⟩
        refine ⟨_, rfl, _, _, _, _, false, rfl, .ty "bool", tx, kb, _, rfl, iteF ?_⟩
        refine ⟨_, rfl, (by show 2 ≤ sizeLine; decide), fun p np => ?_⟩
        have s1 : Same H (upd H p (.tup [.ty "int", .ty "str"])) := same_upd np
        refine ⟨_, p, _, _, _, true, rfl, upd_same, .cons (.ty "int") (.cons (.ty "str") .nil), .base (.str z), kk, _, rfl, iteT ?_⟩
        refine ⟨_, rfl, (by show 2 ≤ sizeLine; decide), fun p2 np2 => ?_⟩
        have s2 : Same _ (upd _ p2 (.tup [.ty "int", .ty "str"])) := same_upd np2
        refine ⟨_, p2, _, _, _, true, rfl, upd_same, .cons (.ty "int") (.cons (.ty "str") .nil), .base (.str z), kk, true, rfl, iteT ?_⟩
        refine ⟨_, rfl, _, _, _, _, false, rfl, .ty "int", .base (.str z), ki, ?_⟩
        refine ⟨_, rfl, _, _, _, _, false, rfl, .ty "int", .base (.str z), ki, rfl, true, rfl, iteT ?_⟩
        refine ⟨_, rfl, _, rfl, .str z, .str z, .str z, .str z, sd, sd, ?_⟩
        rw [er]
        exact q _ (s1.trans s2)
      · cases dx
        cases dy
        refine ⟨_, rfl, rfl, _, rfl, iteT ?_⟩
        exact ⟨_, rfl, rfl, q _ (Same.refl _)⟩
      · -- a list or a tuple
        obtain ⟨ax, ay, xs, ys, nm, rfl, rfl, hsx, hsy, hax, hay, tx, ty, hnm, enm⟩ : ∃ (ax ay : Addr) (xs ys : List V) (nm : String), x = .ref ax ∧ y = .ref ay ∧ (SqL K H ax xs ∨ SqT K H ax xs) ∧ (SqL K H ay ys ∨ SqT K H ay ys) ∧ DpAll K H xs ds ∧ DpAll K H ys ds ∧
            TyX K H x (.type nm) ∧ TyX K H y (.type nm) ∧ (nm = "list" ∨ nm = "tuple") ∧ nm = tyN d := by
          rcases hd with rfl | rfl
          · cases dx with
            | lst h1 h2 =>
              cases dy with
              | lst h3 h4 => exact ⟨_, _, _, _, "list", rfl, rfl, .inl h1, .inl h3, h2, h4, tx, ty, .inl rfl, rfl⟩
          · cases dx with
            | tup h1 h2 =>
              cases dy with
              | tup h3 h4 => exact ⟨_, _, _, _, "tuple", rfl, rfl, .inr h1, .inr h3, h2, h4, tx, ty, .inr rfl, rfl⟩
        have kb : PySem.W.kitOne K (.type nm) (.type "bool") = some false := by rcases hnm with rfl | rfl <;> exact kit_ty (by decide +kernel)
        have ki : PySem.W.kitOne K (.type nm) (.type "int") = some false := by rcases hnm with rfl | rfl <;> exact kit_ty (by decide +kernel)
        have ks : PySem.W.kitOne K (.type nm) (.type "str") = some false := by rcases hnm with rfl | rfl <;> exact kit_ty (by decide +kernel)
        obtain ⟨bl, kl⟩ : ∃ bl, PySem.W.kitOne K (.type nm) (.type "list") = some bl := by
          rcases hnm with rfl | rfl
          · exact ⟨true, kit_ty (by decide +kernel)⟩
          · exact ⟨false, kit_ty (by decide +kernel)⟩
        obtain ⟨bt, kt⟩ : ∃ bt, PySem.W.kitOne K (.type nm) (.type "tuple") = some bt := by
          rcases hnm with rfl | rfl
          · exact ⟨false, kit_ty (by decide +kernel)⟩
          · exact ⟨true, kit_ty (by decide +kernel)⟩
        have kk : PySem.W.kitAny K (.type nm) [.type "int", .type "str"] = some false := kitAny_cons ki (fun _ => kitAny_cons ks (fun _ => rfl) (fun z => nomatch z)) (fun z => nomatch z)
        have kq : PySem.W.kitAny K (.type nm) [.type "list", .type "tuple"] = some true := by
          rcases hnm with rfl | rfl
          · exact kitAny_cons (b := true) (kit_ty (by decide +kernel)) (fun z => nomatch z) (fun _ => rfl)
          · exact kitAny_cons (b := false) (kit_ty (by decide +kernel)) (fun _ => kitAny_cons (b := true) (kit_ty (by decide +kernel)) (fun z => nomatch z) (fun _ => rfl)) (fun z => nomatch z)
        have typ : ∀ {H' : Hp} {v : V}, Same H H' → TyX K H v (.type nm) → (v = .ref ax ∨ v = .ref ay) → TyX K H' v (.type nm) := by
          intro H' v sm h hv
          rw [enm]
          rcases hv with rfl | rfl
          · exact ty_dp (dp_same sm dx)
          · exact ty_dp (dp_same sm dy)
        refine ⟨_, rfl, rfl, _, rfl, iteF ?_⟩
        refine ⟨_, rfl, _, _, _, _, false, rfl, .ty "bool", ty, kb, _, rfl, iteF ?_⟩
        refine ⟨_, rfl, _, _, _, _, false, rfl, .ty "bool", tx, kb, _, rfl, iteF ?_⟩
        refine ⟨_, rfl, (by show 2 ≤ sizeLine; decide), fun p np => ?_⟩
        have s1 : Same H (upd H p (.tup [.ty "int", .ty "str"])) := same_upd np
        refine ⟨_, p, _, _, _, false, rfl, upd_same, .cons (.ty "int") (.cons (.ty "str") .nil), typ s1 ty (.inr rfl), kk, _, rfl, iteF ?_⟩
        refine ⟨_, rfl, _, _, _, _, bl, rfl, .ty "list", typ s1 ty (.inr rfl), kl, ?_⟩
        refine ⟨_, rfl, _, _, _, _, bl, rfl, .ty "list", typ s1 tx (.inl rfl), kl, rfl, _, rfl, ifF (by simp) ?_⟩
        refine ⟨_, rfl, _, _, _, _, bt, rfl, .ty "tuple", typ s1 ty (.inr rfl), kt, ?_⟩
        refine ⟨_, rfl, _, _, _, _, bt, rfl, .ty "tuple", typ s1 tx (.inl rfl), kt, rfl, _, rfl, ifF (by simp) ?_⟩
        refine ⟨_, rfl, (by show 2 ≤ sizeLine; decide), fun p2 np2 => ?_⟩
        have s2 : Same H _ := s1.trans (same_upd (o := .tup [.ty "list", .ty "tuple"]) np2)
        refine ⟨_, p2, _, _, _, true, rfl, upd_same, .cons (.ty "list") (.cons (.ty "tuple") .nil), typ s2 tx (.inl rfl), kq, _, rfl, iteF ?_⟩
        have sq2 : ∀ {H' : Hp} {a : Addr} {zs : List V}, Same H H' → (SqL K H a zs ∨ SqT K H a zs) → (SqL K H' a zs ∨ SqT K H' a zs) := fun sm h => h.elim (fun z => .inl (sm.seq z)) (fun z => .inr (same_t sm z))
        refine ⟨_, rfl, ax, xs, rfl, sq2 s2 hsx, _, rfl, ay, ys, rfl, sq2 s2 hsy, rfl, _, rfl, ifF (by rw [dpa_len hax, dpa_len hay]; simp) ?_⟩
        refine ⟨_, rfl, ay, ys, rfl, sq2 s2 hsy, _, rfl, ?_, ?_, fun D nD => lc_range (lo := 0) (n := ((ys.length : Int)).toNat) (fun i H' => Same H H' ∧ H' D = some (.lst ((List.replicate i true).map V.bl))) ?_ ?_ ?_⟩
        · rw [dpa_len hay]
          omega
        · rw [dpa_len hay]
          omega
        · exact ⟨s2.trans (same_upd nD), upd_same⟩
        · rintro i H' hi ⟨sm, eD⟩
          rw [Int.toNat_natCast] at hi
          have hds : i < ds.length := by rw [← dpa_len hay]; exact hi
          obtain ⟨vx, gx, dvx⟩ := dpa_get hax (List.getElem?_eq_getElem hds)
          obtain ⟨vy, gy, dvy⟩ := dpa_get hay (List.getElem?_eq_getElem hds)
          have ix : ∀ {a : Addr} {zs : List V} {v : V} {Q' : VK}, (SqL K H a zs ∨ SqT K H a zs) → zs[i]? = some v → Q' v H' → rIx K (.ref a) (.int (0 + (i : Int))) H' Q' := by
            intro a zs v Q' h g q'
            have e : atI zs (0 + (i : Int)) = some v := by rw [Int.zero_add]; exact atI_nat g
            rcases sq2 sm h with h | h
            · exact .inl ⟨a, zs, _, v, rfl, rfl, h, e, q'⟩
            · exact .inr (.inl ⟨a, zs, _, v, rfl, rfl, h, e, q'⟩)
          refine ⟨rfl, tYes_by (iteT ?_)⟩
          refine ⟨_, rfl, _, rfl, ix hsx gx ?_⟩
          refine ⟨_, rfl, _, rfl, ix hsy gy ?_⟩
          refine ⟨vx, vy, ds[i], rfl, dp_same sm dvx, dp_same sm dvy, hn _ (List.getElem_mem hds), ?_, fun H2 s4 => ?_⟩
          · exact shaped_mem (List.getElem_mem hds) (hd.elim (fun z => .inl (z ▸ sd)) (fun z => .inr (z ▸ sd)))
          · refine ⟨_, s4 _ _ eD, ?_, ?_, ?_⟩
            · rw [List.length_map, List.length_replicate]
              exact Nat.lt_of_lt_of_le (show i < 100000 by omega) (by decide)
            · exact same_mut (sm.trans s4) (s2.free nD)
            · rw [upd_same, List.replicate_succ', List.map_append]
              rfl
        · rintro H' ⟨sm, eD⟩
          refine ⟨D, _, rfl, SqL.of eD, ?_⟩
          have e : (List.replicate ((ys.length : Int)).toNat true).all id = true := by simp
          rw [e]
          exact q _ sm
theorem sc__law_keys : FnScope ["_law_bag_here", "_law_way"] ["_law_bag_here"] (defScope s__law_keys) := ⟨rfl, rfl, rfl, by decide +kernel, rfl, by decide +kernel, by decide +kernel⟩
def spKeys : Sp := fun vs H Q _ => ∃ (b : Addr × Addr), vs = [.ref b.1] ∧ Bag b H ∧ ∀ (H' : Hp) (p : Addr) (ns : List Int), Mv b.1 H H' → Bag b H' → H p = none → H' p = some (.lst (ns.map V.int)) → Bytes ns → ns.length ≤ 5 → Q (.ref p) H'
theorem bytes_rep {m : Nat} : Bytes (List.replicate m (43 : Int)) := fun z hz => by rw [List.eq_of_mem_replicate hz]; exact ⟨by decide, by decide⟩
theorem ok__law_keys {f : Addr} {fd : FuncData} {k : Nat} (F : Fun K "_law_keys" "_law_keys" s__law_keys f fd) (c__law_pick : Cal P w K mg base k "_law_pick" ["_law_bag_here", "_law_top"] spPick) (c__law_of : Cal P w K mg base k "_law_of" ["_law_bag_here", "_law_some"] (spOf K)) (c__law_row : Cal P w K mg base k "_law_row" ["_law_bag_here", "_law_most"] spRow) : FnOk P w K mg base CX0 (k + 1) f fd ["_law_bag_here"] spKeys := by
  have sc := sc__law_keys
  refine F.ok sc (fun vs H Q E h => ?_) (fun cdv A outer s H vs Q E hr h => ?_)
  · obtain ⟨b, rfl, _⟩ := h
    rfl
  · obtain ⟨b, rfl, hB, q⟩ := h
    refine ⟨_, (pss_cons (ps_set (i := 1) sc.nd rfl (.inl rfl) (pe_callC c__law_pick hr (by rfl) (pa_cons (pv 0) (pa_cons pe_int pa_nil))))
 (pss_cons (ps_if (pt_cmpR op_lt (pv 1) pe_int (nomark _))
  (pss_one (ps_ret (pe_lst pa_nil)))
  pss_nil)
 (pss_cons (ps_if (pt_cmpR op_lt (pv 1) pe_int (nomark _))
  (pss_one (ps_ret (pe_op op_rep (pe_lst (pa_cons pe_int pa_nil)) (pe_op op_add pe_int (pe_callC c__law_pick hr (by rfl) (pa_cons (pv 0) (pa_cons pe_int pa_nil)))))))
  pss_nil)
 (pss_one (ps_ret (pe_callC c__law_of hr (by rfl) (pa_cons (pv 0) (pa_cons (pe_lst (pa_cons (pe_op op_rep (pe_lst (pa_cons pe_int pa_nil)) (pe_callC c__law_pick hr (by rfl) (pa_cons (pv 0) (pa_cons pe_int pa_nil)))) (pa_cons (pe_callC c__law_row hr (by rfl) (pa_cons (pv 0) (pa_cons pe_int pa_nil))) (pa_cons (pe_lst (pa_cons pe_int (pa_cons pe_int pa_nil))) (pa_cons (pe_lst (pa_cons pe_int (pa_cons pe_int (pa_cons pe_int pa_nil)))) pa_nil))))) pa_nil)))))))), ?_⟩
    refine ⟨_, rfl, b, 8, rfl, hB, by decide, by decide, fun H1 d mv1 hB1 d0 d1 => ?_⟩
    refine name_by ?_
    refine ⟨_, rfl, _, _, rfl, rfl, _, rfl, ite2 (fun e => ?_) (fun e => ?_)⟩
    · refine ⟨Nat.zero_le _, fun p np => ?_⟩
      have s2 := same_upd (o := .lst []) np
      exact q _ p [] (mv1.trans (Mv.of s2)) (hB1.same s2) (mv1.none (hB1.ne np) np) upd_same bytes_nil (by decide)
    · refine ⟨_, rfl, _, _, rfl, rfl, _, rfl, ite2 (fun e => ?_) (fun e => ?_)⟩
      · refine ⟨(by show 1 ≤ sizeLine; decide), fun p2 n2 => ?_⟩
        have s2 := same_upd (o := .lst [.int 43]) n2
        refine ⟨_, rfl, b, 3, rfl, hB1.same s2, by decide, by decide, fun H3 d3 mv3 hB3 d30 d31 => ⟨_, _, rfl, rfl, p2, 1 + d3, _, rfl, rfl, mv3 _ _ ((hB1.ne n2)) upd_same, by omega, by omega, ?_, fun p4 n4 => ?_⟩⟩
        · show 1 * (1 + d3).toNat ≤ sizeLine
          exact sz4 (by omega)
        rw [rep1]
        have m3 := (mv1.trans (Mv.of s2)).trans mv3
        have s4 := same_upd (o := .lst ((List.replicate (1 + d3).toNat (43 : Int)).map V.int)) n4
        exact q _ p4 _ (m3.trans (Mv.of s4)) (hB3.same s4) (m3.none (hB3.ne n4) n4) upd_same bytes_rep (by rw [List.length_replicate]; omega)
      · refine ⟨_, rfl, (by show 1 ≤ sizeLine; decide), fun p2 n2 => ?_⟩
        have h1 : SH b H1 [] := SH.nil hB1
        have h2 := h1.new (o := .lst [.int 43]) n2
        have m2 := mv1.trans (Mv.of (same_upd (o := .lst [.int 43]) n2))
        refine ⟨_, rfl, b, 6, rfl, h2.bag, by decide, by decide, fun H3 d3 mv3 hB3 d30 d31 => ?_⟩
        have h3 := h2.mv mv3 hB3
        have m3 := m2.trans mv3
        refine ⟨p2, d3, _, rfl, rfl, h3.get (.head _), by omega, by omega, ?_, fun p4 n4 => ?_⟩
        · show 1 * d3.toNat ≤ sizeLine
          exact sz4 (by omega)
        rw [rep1]
        have n4' := m3.none (hB3.ne n4) n4
        have h4 := h3.new (o := .lst ((List.replicate d3.toNat (43 : Int)).map V.int)) n4
        have m4 := m3.trans (Mv.of (same_upd (o := .lst ((List.replicate d3.toNat (43 : Int)).map V.int)) n4))
        refine ⟨_, rfl, b, 5, rfl, h4.bag, by decide, by decide, fun H5 p5 r5 mv5 hB5 n5 e5 by5 hl5 => ?_⟩
        have n5' := m4.none (h4.bag.ne n5) n5
        have h5 := h4.newM mv5 hB5 n5 e5
        have m5 := m4.trans mv5
        refine ⟨(by show 2 ≤ sizeLine; decide), fun p6 n6 => ?_⟩
        have n6' := m5.none (hB5.ne n6) n6
        have h6 := h5.new (o := .lst [.int 43, .int 44]) n6
        have m6 := m5.trans (Mv.of (same_upd (o := .lst [.int 43, .int 44]) n6))
        refine ⟨(by show 3 ≤ sizeLine; decide), fun p7 n7 => ?_⟩
        have n7' := m6.none (h6.bag.ne n7) n7
        have h7 := h6.new (o := .lst [.int 44, .int 43, .int 43]) n7
        have m7 := m6.trans (Mv.of (same_upd (o := .lst [.int 44, .int 43, .int 43]) n7))
        refine ⟨(by show 4 ≤ sizeLine; decide), fun p8 n8 => ?_⟩
        have h8 := h7.new (o := .lst [.ref p4, .ref p5, .ref p6, .ref p7]) n8
        have m8 := m7.trans (Mv.of (same_upd (o := .lst [.ref p4, .ref p5, .ref p6, .ref p7]) n8))
        refine ⟨b, p8, _, rfl, h8.bag, h8.ne (.head _), h8.get (.head _), (by show 0 < 4; decide), (by show 4 < 1000; decide), fun H9 v mv9 hB9 hv => ?_⟩
        have h9 := h8.mv mv9 hB9
        have m9 := m8.trans mv9
        rcases List.mem_cons.mp hv with rfl | hv
        · exact q H9 p4 _ m9 hB9 n4' (h9.get (.tail _ (.tail _ (.tail _ (.tail _ (.head _)))))) bytes_rep (by rw [List.length_replicate]; omega)
        rcases List.mem_cons.mp hv with rfl | hv
        · exact q H9 p5 _ m9 hB9 n5' (h9.get (.tail _ (.tail _ (.tail _ (.head _))))) by5 (by omega)
        rcases List.mem_cons.mp hv with rfl | hv
        · exact q H9 p6 [43, 44] m9 hB9 n6' (h9.get (.tail _ (.tail _ (.head _)))) (by unfold Bytes isY; decide) (by decide)
        · rw [List.mem_singleton.mp hv]
          exact q H9 p7 [44, 43, 43] m9 hB9 n7' (h9.get (.tail _ (.head _))) (by unfold Bytes isY; decide) (by decide)
/-! ### beats of a guard, looked back upon (the latest first) -/
def trail : List (List Int) → Nat
  | [] => 0
  | x :: r => if x = [] then trail r + 1 else 0
def hasK : List (List Int) → Bool
  | [] => false
  | x :: r => if x = [] then hasK r else true
def fK (p : Nat) : List (List Int) → List Int
  | [] => []
  | x :: r => if x = [] then fK p r else if p ≤ trail r then x else fK p r ++ x
def bk (p : Nat) : List (List Int) → Nat → List Int → List Int
  | [], _, A => A
  | x :: r, g, A => if p ≤ g then A else if x = [] then bk p r (g + 1) A else bk p r 0 (x ++ A)
theorem bk_stop (p : Nat) : ∀ (r : List (List Int)) (g : Nat) (A : List Int), p ≤ g → bk p r g A = A
  | [], _, _, _ => rfl
  | x :: r, g, A, h => if_pos h
theorem bk_eq {p : Nat} (hp : 0 < p) : ∀ (r : List (List Int)) (g : Nat) (A : List Int), g < p → bk p r g A = if p ≤ g + trail r then A else fK p r ++ A
  | [], g, A, h => by
    rw [if_neg (by show ¬ p ≤ g + 0; omega)]
    rfl
  | x :: r, g, A, h => by
    unfold bk
    rw [if_neg (by omega)]
    by_cases e : x = []
    · rw [if_pos e]
      have et : trail (x :: r) = trail r + 1 := if_pos e
      have ef : fK p (x :: r) = fK p r := if_pos e
      rw [et, ef]
      by_cases h1 : g + 1 < p
      · rw [bk_eq hp r (g + 1) A h1, show g + 1 + trail r = g + (trail r + 1) by omega]
      · rw [bk_stop p r (g + 1) A (by omega), if_pos (by omega)]
    · rw [if_neg e, bk_eq hp r 0 (x ++ A) hp]
      have et : trail (x :: r) = 0 := if_neg e
      have ef : fK p (x :: r) = if p ≤ trail r then x else fK p r ++ x := if_neg e
      rw [et, ef, Nat.zero_add, if_neg (show ¬ p ≤ g + 0 by omega)]
      by_cases h2 : p ≤ trail r
      · rw [if_pos h2, if_pos h2]
      · rw [if_neg h2, if_neg h2, List.append_assoc]
def sgn (p : Nat) (R : List (List Int)) : Bool := decide (trail R = p ∧ fK p R = [43, 43, 43])
def mCond (p : Nat) (R : List (List Int)) : Prop := hasK R = true ∧ trail R < p ∧ (fK p R).length ≤ 3 ∧ (fK p R).count 43 = (fK p R).length
instance (p : Nat) (R : List (List Int)) : Decidable (mCond p R) := by unfold mCond; exact inferInstance
def mOf (p : Nat) (R : List (List Int)) : Nat := if mCond p R then (fK p R).length else 0
def sOf (p : Nat) (R : List (List Int)) : Nat := if hasK R = true then trail R else p + trail R
def stOf (p : Nat) (R : List (List Int)) : GS := ⟨p, sOf p R, mOf p R⟩
theorem count_all {l : List Int} (h : l.count 43 = l.length) : l = List.replicate l.length 43 := by
  rw [List.count_eq_length] at h
  exact List.eq_replicate_iff.mpr ⟨rfl, fun b hb => (h b hb).symm⟩
theorem hasK_no {p : Nat} : ∀ {R : List (List Int)}, hasK R = false → fK p R = []
  | [], _ => rfl
  | x :: r, h => by
    by_cases e : x = []
    · have h1 : hasK (x :: r) = hasK r := if_pos e
      have h2 : fK p (x :: r) = fK p r := if_pos e
      rw [h2]
      exact hasK_no (h1.symm.trans h)
    · have h1 : hasK (x :: r) = true := if_neg e
      rw [h1] at h
      cases h
theorem hasK_yes {p : Nat} : ∀ {R : List (List Int)}, hasK R = true → fK p R ≠ []
  | [], h => by cases h
  | x :: r, h => by
    by_cases e : x = []
    · have h1 : hasK (x :: r) = hasK r := if_pos e
      have h2 : fK p (x :: r) = fK p r := if_pos e
      rw [h2]
      exact hasK_yes (h1.symm.trans h)
    · have h2 : fK p (x :: r) = if p ≤ trail r then x else fK p r ++ x := if_neg e
      rw [h2]
      split
      · exact e
      · exact fun z => e (List.append_eq_nil_iff.mp z).2
theorem mOf_le (p : Nat) (R : List (List Int)) : mOf p R ≤ 3 := by
  unfold mOf
  split
  · rename_i h
    exact h.2.2.1
  · exact Nat.zero_le _
def tail43 (f : Bool) : List Int := if f = true then [43, 43, 43] else []
theorem rep_len {m : Nat} : (List.replicate m (43 : Int)).length = m := List.length_replicate
theorem beat_hist {p : Nat} (hp : 0 < p) (R : List (List Int)) (x : List Int) : (gBeat (stOf p R) x).1 = stOf p (x :: R) ∧ (gBeat (stOf p R) x).2.2 = sgn p (x :: R) ∧
    List.replicate (mOf p R) 43 ++ x = (gBeat (stOf p R) x).2.1 ++ tail43 (gBeat (stOf p R) x).2.2 ++ List.replicate (mOf p (x :: R)) 43 := by
  by_cases e : x = []
  · subst e
    have et : trail ([] :: R) = trail R + 1 := if_pos rfl
    have eh : hasK ([] :: R) = hasK R := if_pos rfl
    have ef : fK p ([] :: R) = fK p R := if_pos rfl
    have gb : gBeat (stOf p R) [] = if (stOf p R).s + 1 < (stOf p R).p then (⟨p, (stOf p R).s + 1, (stOf p R).m⟩, [], false) else if (stOf p R).m = 3 then (⟨p, (stOf p R).s + 1, 0⟩, [], true) else (⟨p, (stOf p R).s + 1, 0⟩, List.replicate (stOf p R).m 43, false) := if_pos rfl
    have e1 : (stOf p R).s = sOf p R := rfl
    have e2 : (stOf p R).p = p := rfl
    have e3 : (stOf p R).m = mOf p R := rfl
    rw [gb, e1, e2, e3]
    have es : sOf p ([] :: R) = sOf p R + 1 := by
      unfold sOf
      rw [eh, et]
      split <;> omega
    by_cases hk : hasK R = true
    · have es1 : sOf p R = trail R := if_pos hk
      by_cases h1 : sOf p R + 1 < p
      · have ec : mCond p ([] :: R) ↔ mCond p R := by
          unfold mCond
          rw [eh, et, ef]
          exact ⟨fun h => ⟨h.1, by omega, h.2.2⟩, fun h => ⟨h.1, by omega, h.2.2⟩⟩
        have em : mOf p ([] :: R) = mOf p R := by
          unfold mOf
          by_cases c : mCond p R
          · rw [if_pos c, if_pos (ec.mpr c), ef]
          · rw [if_neg c, if_neg (fun z => c (ec.mp z))]
        have sg : sgn p ([] :: R) = false := decide_eq_false (fun h => by rw [et] at h; omega)
        rw [if_pos h1, sg]
        refine ⟨?_, rfl, ?_⟩
        · show (⟨p, sOf p R + 1, mOf p R⟩ : GS) = ⟨p, sOf p ([] :: R), mOf p ([] :: R)⟩
          rw [es, em]
        · show List.replicate (mOf p R) 43 ++ [] = [] ++ [] ++ List.replicate (mOf p ([] :: R)) 43
          rw [em]
          simp
      · have em : mOf p ([] :: R) = 0 := if_neg (fun h => by have := h.2.1; rw [et] at this; omega)
        rw [if_neg h1]
        by_cases h3 : mOf p R = 3
        · have hc : mCond p R := by
            by_cases c : mCond p R
            · exact c
            · unfold mOf at h3
              rw [if_neg c] at h3
              cases h3
          have hl : (fK p R).length = 3 := by
            have : mOf p R = (fK p R).length := if_pos hc
            omega
          have hf : fK p R = [43, 43, 43] := by
            have := count_all hc.2.2.2
            rw [hl] at this
            exact this
          have sg : sgn p ([] :: R) = true := decide_eq_true ⟨by rw [et]; have := hc.2.1; omega, by rw [ef]; exact hf⟩
          rw [if_pos h3, sg]
          refine ⟨?_, rfl, ?_⟩
          · show (⟨p, sOf p R + 1, 0⟩ : GS) = ⟨p, sOf p ([] :: R), mOf p ([] :: R)⟩
            rw [es, em]
          · show List.replicate (mOf p R) 43 ++ [] = [] ++ [43, 43, 43] ++ List.replicate (mOf p ([] :: R)) 43
            rw [em, h3]
            rfl
        · have sg : sgn p ([] :: R) = false := decide_eq_false (fun h => by
            rw [et, ef] at h
            refine h3 ?_
            have hc : mCond p R := ⟨hk, by omega, by rw [h.2]; decide, by rw [h.2]; decide⟩
            have : mOf p R = (fK p R).length := if_pos hc
            rw [this, h.2]
            rfl)
          rw [if_neg h3, sg]
          refine ⟨?_, rfl, ?_⟩
          · show (⟨p, sOf p R + 1, 0⟩ : GS) = ⟨p, sOf p ([] :: R), mOf p ([] :: R)⟩
            rw [es, em]
          · show List.replicate (mOf p R) 43 ++ [] = List.replicate (mOf p R) 43 ++ [] ++ List.replicate (mOf p ([] :: R)) 43
            rw [em]
            simp
    · have hk' : hasK R = false := by simpa using hk
      have es1 : sOf p R = p + trail R := if_neg hk
      have m0 : mOf p R = 0 := if_neg (fun h => hk h.1)
      have em : mOf p ([] :: R) = 0 := if_neg (fun h => hk (eh ▸ h.1))
      have sg : sgn p ([] :: R) = false := decide_eq_false (fun h => by
        rw [ef, hasK_no hk'] at h
        cases h.2)
      rw [if_neg (by omega), if_neg (by omega), sg]
      refine ⟨?_, rfl, ?_⟩
      · show (⟨p, sOf p R + 1, 0⟩ : GS) = ⟨p, sOf p ([] :: R), mOf p ([] :: R)⟩
        rw [es, em]
      · show List.replicate (mOf p R) 43 ++ [] = List.replicate (mOf p R) 43 ++ [] ++ List.replicate (mOf p ([] :: R)) 43
        rw [em]
        simp
  · have et : trail (x :: R) = 0 := if_neg e
    have eh : hasK (x :: R) = true := if_neg e
    have ef : fK p (x :: R) = if p ≤ trail R then x else fK p R ++ x := if_neg e
    have es : sOf p (x :: R) = 0 := by
      unfold sOf
      rw [if_pos eh, et]
    have sg : sgn p (x :: R) = false := decide_eq_false (fun h => by rw [et] at h; omega)
    have gb : gBeat (stOf p R) x = if gHolds (stOf p R) x then (⟨p, 0, (gBoth (stOf p R) x).length⟩, [], false) else (⟨p, 0, 0⟩, gBoth (stOf p R) x, false) := if_neg e
    have hm : mCond p (x :: R) ↔ (fK p (x :: R)).length ≤ 3 ∧ (fK p (x :: R)).count 43 = (fK p (x :: R)).length := by
      unfold mCond
      rw [eh, et]
      exact ⟨fun h => h.2.2, fun h => ⟨rfl, hp, h⟩⟩
    rw [gb, sg]
    by_cases ha : 0 < mOf p R ∨ p ≤ sOf p R
    · have eB : gBoth (stOf p R) x = fK p (x :: R) := by
        show List.replicate (mOf p R) 43 ++ x = _
        rw [ef]
        by_cases h0 : 0 < mOf p R
        · have hc : mCond p R := by
            by_cases c : mCond p R
            · exact c
            · unfold mOf at h0
              rw [if_neg c] at h0
              exact absurd h0 (by decide)
          have em : mOf p R = (fK p R).length := if_pos hc
          have := count_all hc.2.2.2
          rw [if_neg (by have := hc.2.1; omega), em, ← this]
        · have m0 : mOf p R = 0 := by omega
          have hs : p ≤ sOf p R := ha.elim (fun h => absurd h h0) (fun h => h)
          rw [m0]
          by_cases hk : hasK R = true
          · have es1 : sOf p R = trail R := if_pos hk
            rw [if_pos (by omega)]
            rfl
          · have hk' : hasK R = false := by simpa using hk
            rw [hasK_no hk']
            split <;> rfl
      have hh : gHolds (stOf p R) x ↔ mCond p (x :: R) := by
        unfold gHolds
        rw [hm, eB]
        exact ⟨fun h => h.2, fun h => ⟨ha, h⟩⟩
      by_cases hc : mCond p (x :: R)
      · have em : mOf p (x :: R) = (fK p (x :: R)).length := if_pos hc
        rw [if_pos (hh.mpr hc)]
        refine ⟨?_, rfl, ?_⟩
        · show (⟨p, 0, (gBoth (stOf p R) x).length⟩ : GS) = ⟨p, sOf p (x :: R), mOf p (x :: R)⟩
          rw [es, em, eB]
        · show gBoth (stOf p R) x = [] ++ [] ++ List.replicate (mOf p (x :: R)) 43
          rw [em, eB]
          exact count_all hc.2.2.2
      · have em : mOf p (x :: R) = 0 := if_neg hc
        rw [if_neg (fun h => hc (hh.mp h))]
        refine ⟨?_, rfl, ?_⟩
        · show (⟨p, 0, 0⟩ : GS) = ⟨p, sOf p (x :: R), mOf p (x :: R)⟩
          rw [es, em]
        · show gBoth (stOf p R) x = gBoth (stOf p R) x ++ [] ++ List.replicate (mOf p (x :: R)) 43
          rw [em]
          simp
    · have m0 : mOf p R = 0 := by omega
      have hs : sOf p R < p := by omega
      have hk : hasK R = true := by
        by_cases hk : hasK R = true
        · exact hk
        · have es1 : sOf p R = p + trail R := if_neg hk
          omega
      have es1 : sOf p R = trail R := if_pos hk
      have hn : ¬ mCond p (x :: R) := fun h => by
        have h2 := hm.mp h
        rw [ef, if_neg (by omega), List.length_append, List.count_append] at h2
        have c1 := List.count_le_length (a := (43 : Int)) (l := fK p R)
        have c2 := List.count_le_length (a := (43 : Int)) (l := x)
        have hc : mCond p R := ⟨hk, by omega, by omega, by omega⟩
        have em : mOf p R = (fK p R).length := if_pos hc
        exact hasK_yes (p := p) hk (List.length_eq_zero_iff.mp (by omega))
      have em : mOf p (x :: R) = 0 := if_neg hn
      have ng : ¬ gHolds (stOf p R) x := fun h => ha h.1
      rw [if_neg ng]
      refine ⟨?_, rfl, ?_⟩
      · show (⟨p, 0, 0⟩ : GS) = ⟨p, sOf p (x :: R), mOf p (x :: R)⟩
        rw [es, em]
      · show gBoth (stOf p R) x = gBoth (stOf p R) x ++ [] ++ List.replicate (mOf p (x :: R)) 43
        rw [em]
        simp
theorem take_rev {L : List (List Int)} {i : Nat} {x : List Int} (h : L[i]? = some x) : (L.take (i + 1)).reverse = x :: (L.take i).reverse := by
  rw [take_more h, List.reverse_append]
  rfl
/-- rows of ints at these places -/
def RowsAt (H : Hp) : List Addr → List (List Int) → Prop
  | [], [] => True
  | p :: ps, r :: rs => H p = some (.lst (r.map V.int)) ∧ RowsAt H ps rs
  | _, _ => False
theorem RowsAt.dp {H : Hp} : ∀ {ps : List Addr} {rs : List (List Int)}, RowsAt H ps rs → DpAll K H (ps.map V.ref) (rs.map dI)
  | [], [], _ => .nil
  | p :: ps, r :: rs, h => .cons (dp_ints (SqL.of h.1)) (RowsAt.dp h.2)
theorem RowsAt.len {H : Hp} : ∀ {ps : List Addr} {rs : List (List Int)}, RowsAt H ps rs → ps.length = rs.length
  | [], [], _ => rfl
  | p :: ps, r :: rs, h => congrArg (· + 1) (RowsAt.len h.2)
theorem RowsAt.loc {H H' : Hp} : ∀ {ps : List Addr} {rs : List (List Int)}, (∀ a ∈ ps, ∀ o, H a = some o → H' a = some o) → RowsAt H ps rs → RowsAt H' ps rs
  | [], [], _, _ => trivial
  | p :: ps, r :: rs, k, h => ⟨k p (.head _) _ h.1, RowsAt.loc (fun a ha => k a (.tail _ ha)) h.2⟩
theorem RowsAt.pl {H : Hp} : ∀ {ps : List Addr} {rs : List (List Int)}, RowsAt H ps rs → ∀ a ∈ ps, ∃ o, H a = some o ∧ plain o
  | p :: ps, r :: rs, h, a, ha => by
    rcases List.mem_cons.mp ha with rfl | ha
    · exact ⟨_, h.1, trivial⟩
    · exact RowsAt.pl h.2 a ha
theorem RowsAt.al {H : Hp} {ps : List Addr} {rs : List (List Int)} (h : RowsAt H ps rs) (a : Addr) (ha : a ∈ ps) : H a ≠ none := by
  obtain ⟨o, e, _⟩ := RowsAt.pl h a ha
  rw [e]
  exact fun z => nomatch z
theorem RowsAt.snoc {H : Hp} {p : Addr} {r : List Int} (e : H p = some (.lst (r.map V.int))) : ∀ {ps : List Addr} {rs : List (List Int)}, RowsAt H ps rs → RowsAt H (ps ++ [p]) (rs ++ [r])
  | [], [], _ => ⟨e, trivial⟩
  | q :: ps, s :: rs, h => ⟨h.1, RowsAt.snoc e h.2⟩
theorem RowsAt.at {H : Hp} : ∀ {ps : List Addr} {rs : List (List Int)} {i : Nat} {p : Addr}, RowsAt H ps rs → ps[i]? = some p → ∃ r, rs[i]? = some r ∧ H p = some (.lst (r.map V.int))
  | q :: ps, s :: rs, 0, p, h, e => by cases e; exact ⟨s, rfl, h.1⟩
  | q :: ps, s :: rs, i + 1, p, h, e => RowsAt.at (i := i) h.2 e
theorem sc__law_signed : FnScope ["_law_rows", "_law_rest", "_law_at", "_law_silent", "_law_keyed", "_law_gap"] ["_law_rows", "_law_rest"] (defScope s__law_signed) := ⟨rfl, rfl, rfl, by decide +kernel, rfl, by decide +kernel, by decide +kernel⟩
def spSigned (K : PySem.W.Frag) : Sp := fun vs H Q _ => ∃ (a : Addr) (ps : List Addr) (L : List (List Int)) (p : Nat), vs = [.ref a, .int p] ∧ H a = some (.lst (ps.map V.ref)) ∧ RowsAt H ps L ∧ 0 < p ∧ p ≤ 1000 ∧ L.length ≤ 60 ∧ (∀ x ∈ L, x.length ≤ 1000) ∧ ∀ H', Same H H' → Q (.bl (sgn p L.reverse)) H'
theorem RowsAt.same {H H' : Hp} {ps : List Addr} {L : List (List Int)} (s : Same H H') (h : RowsAt H ps L) : RowsAt H' ps L := h.loc (fun a _ o e => s a o e)
theorem ok__law_signed {f : Addr} {fd : FuncData} {k : Nat} (F : Fun K "_law_signed" "_law_signed" s__law_signed f fd) (n_len : mg "len" = none) : FnOk P w K mg base CX0 (k + 1) f fd ["_law_rows", "_law_rest"] (spSigned K) := by
  have sc := sc__law_signed
  refine F.ok sc (fun vs H Q E h => ?_) (fun cdv A outer s H vs Q E hr h => ?_)
  · obtain ⟨a, ps, L, p, rfl, _⟩ := h
    rfl
  · obtain ⟨a, ps, L, p, rfl, ha, hR, hp, hp1, hL, hx, q⟩ := h
    refine ⟨_, (pss_cons (ps_set (i := 2) sc.nd rfl (.inl rfl) (pe_callB (call_lenK K rfl) (by rfl) n_len PySem.boot_len (pa_cons (pv 0) pa_nil)))
 (pss_cons (ps_set (i := 3) sc.nd rfl (.inl rfl) pe_int)
 (pss_cons (ps_while PassesOwn.never (PW.pt (pw_and (pt_cmpR op_gt (pv 2) pe_int (nomark _)) (pw_and1 (pt_cmpR (op_eqDK K rfl hr.units) (pe_ix (ix_listK K rfl) (pv 0) (pe_op op_sub (pv 2) pe_int) (fun _ _ => rfl)) (pe_lst pa_nil) (nomark _)))))
  (pss_cons (ps_set (i := 2) sc.nd rfl (.inl rfl) (pe_op op_sub (pv 2) pe_int))
 (pss_one (ps_set (i := 3) sc.nd rfl (.inl rfl) (pe_op op_add (pv 3) pe_int)))))
 (pss_cons (ps_if (pt_cmpR op_ne (pv 3) (pv 1) (nomark _))
  (pss_one (ps_ret pe_bl))
  pss_nil)
 (pss_cons (ps_set (i := 4) sc.nd rfl (.inl rfl) (pe_lst pa_nil))
 (pss_cons (ps_set (i := 5) sc.nd rfl (.inl rfl) pe_int)
 (pss_cons (ps_while PassesOwn.never (PW.pt (pw_and (pt_cmpR op_gt (pv 2) pe_int (nomark _)) (pw_and1 (pt_cmpR op_lt (pv 5) (pv 1) (nomark _)))))
  (pss_cons (ps_set (i := 2) sc.nd rfl (.inl rfl) (pe_op op_sub (pv 2) pe_int))
 (pss_one (ps_if (pt_cmpR (op_eqDK K rfl hr.units) (pe_ix (ix_listK K rfl) (pv 0) (pv 2) (fun _ _ => rfl)) (pe_lst pa_nil) (nomark _))
  (pss_one (ps_set (i := 5) sc.nd rfl (.inl rfl) (pe_op op_add (pv 5) pe_int)))
  (pss_cons (ps_set (i := 5) sc.nd rfl (.inl rfl) pe_int)
 (pss_one (ps_set (i := 4) sc.nd rfl (.inl rfl) (pe_op op_cat (pe_ix (ix_listK K rfl) (pv 0) (pv 2) (fun _ _ => rfl)) (pv 4)))))))))
 (pss_one (ps_ret (pe_cmpR (op_eqDK K rfl hr.units) (pv 4) (pe_lst (pa_cons pe_int (pa_cons pe_int (pa_cons pe_int pa_nil)))) (nomark _))))))))))), ?_⟩
    have hlen := hR.len
    refine ⟨_, rfl, a, _, rfl, .inl (SqL.of ha), ?_⟩
    refine name_by ?_
    rw [List.length_map, hlen]
    refine const_by ?_
    refine const_by ?_
    -- one row, seen
    have item : ∀ (H1 : Hp) (i : Nat), Same H H1 → i < L.length → ∃ (x : List Int) (px : Addr), L[i]? = some x ∧ (ps.map V.ref)[i]? = some (.ref px) ∧ H1 px = some (.lst (x.map V.int)) ∧ x.length ≤ 1000 := by
      intro H1 i s1 hi
      obtain ⟨px, hpx⟩ := getElem?_ex (show i < ps.length by omega)
      obtain ⟨x, hx1, hx2⟩ := hR.at hpx
      exact ⟨x, px, hx1, by rw [List.getElem?_map, hpx]; rfl, s1 _ _ hx2, hx x (List.mem_of_getElem? hx1)⟩
    refine seq_by (J := fun σ1 H1 => ∃ (n j : Nat), σ1 = [some (.ref a), some (.int (p : Int)), some (.int (n : Int)), some (.int (j : Int)), none, none] ∧ Same H H1 ∧ n ≤ L.length ∧ trail L.reverse = j ∧ trail (L.take n).reverse = 0 ∧ fK p L.reverse = fK p (L.take n).reverse) ?_ (fun rest => ?_)
    · rintro σ1 H1 ⟨n, j, rfl, s1, hn, ht, ht0, hf⟩
      refine ⟨_, rfl, _, rfl, rfl, _, rfl, ite2 (fun e => ?_) (fun e => ?_)⟩
      · have e : ¬ j = p := fun z => ne_t e (by omega)
        have sg : sgn p L.reverse = false := decide_eq_false (fun h => e (ht.symm.trans h.1))
        rw [sg] at q
        exact q H1 s1
      · have e : j = p := by have := ne_f e; omega
        subst e
        refine ⟨Nat.zero_le _, fun pk nk => ?_⟩
        have s2 := s1.trans (same_upd (o := .lst []) nk)
        have ek : upd H1 pk (.lst []) pk = some (.lst ([].map V.int)) := upd_same
        generalize upd H1 pk (.lst []) = H2 at s2 ek ⊢
        refine name_by ?_
        refine const_by ?_
        refine const_by ?_
        refine seq_by (J := fun σ1 H3 => ∃ (y2 y5 : Option V) (pk : Addr), σ1 = [some (.ref a), some (.int (j : Int)), y2, some (.int (j : Int)), some (.ref pk), y5] ∧ Same H H3 ∧ H3 pk = some (.lst ((fK j L.reverse).map V.int))) ?_ (fun rest => ?_)
        · rintro σ1 H3 ⟨y2, y5, pk, rfl, s3, ek⟩
          refine ⟨_, rfl, (by show 3 ≤ sizeLine; decide), fun p4 n4 => ?_⟩
          have s4 := same_upd (o := .lst [.int 43, .int 43, .int 43]) n4
          refine ⟨_, _, dp_ints (SqL.of (s4 _ _ ek)), dp_ints (ns := [43, 43, 43]) (SqL.of upd_same), shaped_ints _, shaped_ints _, ?_⟩
          rw [eqv_ints]
          have sg : sgn j L.reverse = decide (fK j L.reverse = [43, 43, 43]) := decide_eq_decide.mpr ⟨fun h => h.2, fun h => ⟨ht, h⟩⟩
          rw [← sg]
          exact q _ (s3.trans s4)
        · refine while_w (fun σ H' => ∃ (n g : Nat) (pk : Addr) (A : List Int), σ = [some (.ref a), some (.int (j : Int)), some (.int (n : Int)), some (.int (j : Int)), some (.ref pk), some (.int (g : Int))] ∧ Same H H' ∧ n ≤ L.length ∧ H' pk = some (.lst (A.map V.int)) ∧ A.length + 1000 * n ≤ 1000 * L.length ∧ bk j (L.take n).reverse g A = fK j L.reverse) (fun σ _ => match σ with | [_, _, some (.int n), _, _, _] => n.toNat | _ => 0) ⟨n, 0, pk, [], rfl, s2, hn, ek, by show 0 + 1000 * n ≤ _; omega, ?_⟩ ?_
          · rw [bk_eq hp _ 0 [] hp, ht0, if_neg (by omega), List.append_nil, hf]
          · rintro σ H3 ⟨n, g, pk, A, rfl, s3, hn, ek, hA, hb⟩
            have stop : bk j (L.take n).reverse g A = A → tNext { nx := fun σ1 H3 => ∃ (y2 y5 : Option V) (pk : Addr), σ1 = [some (.ref a), some (.int (j : Int)), y2, some (.int (j : Int)), some (.ref pk), y5] ∧ Same H H3 ∧ H3 pk = some (.lst ((fK j L.reverse).map V.int)), rt := Q } [some (.ref a), some (.int (j : Int)), some (.int (n : Int)), some (.int (j : Int)), some (.ref pk), some (.int (g : Int))] H3 := by
              intro h
              refine ⟨_, _, pk, rfl, s3, ?_⟩
              rw [← hb, h]
              exact ek
            refine ⟨_, rfl, _, _, rfl, rfl, _, rfl, ite2 (fun e => ?_) (fun e => ?_)⟩
            · have e : 0 < n := by have := of_decide_eq_true e; omega
              refine ⟨_, rfl, _, rfl, _, _, rfl, rfl, _, rfl, ite2 (fun e2 => ?_) (fun e2 => ?_)⟩
              · have e2 : g < j := by have := of_decide_eq_true e2; omega
                obtain ⟨m, rfl⟩ : ∃ m, n = m + 1 := ⟨n - 1, by omega⟩
                refine ⟨wN _ _ _, wN_ok, ?_⟩
                refine ⟨_, rfl, _, _, rfl, rfl, ?_⟩
                refine name_by ?_
                dsimp only
                rw [show ((m + 1 : Nat) : Int) - 1 = (m : Int) by omega]
                obtain ⟨x, px, hx1, hx2, hx3, hx4⟩ := item H3 m s3 (by omega)
                have eb : bk j (L.take (m + 1)).reverse g A = if x = [] then bk j (L.take m).reverse (g + 1) A else bk j (L.take m).reverse 0 (x ++ A) := by
                  rw [take_rev hx1]
                  exact if_neg (by omega)
                rw [eb] at hb
                refine ⟨_, rfl, _, rfl, a, _, _, _, rfl, rfl, SqL.of (s3 _ _ ha), atI_nat hx2, Nat.zero_le _, fun p5 n5 => ?_⟩
                have s5 := same_upd (o := .lst []) n5
                refine ⟨_, _, dp_ints (SqL.of (s5 _ _ hx3)), dp_ints (ns := []) (SqL.of upd_same), shaped_ints _, shaped_ints _, ?_⟩
                rw [eqv_ints]
                refine ⟨_, rfl, ite2 (fun e3 => ?_) (fun e3 => ?_)⟩
                · have e3 : x = [] := of_decide_eq_true e3
                  rw [if_pos e3] at hb
                  refine ⟨_, rfl, _, _, rfl, rfl, ?_⟩
                  exact ⟨⟨m, g + 1, pk, A, rfl, s3.trans s5, by omega, s5 _ _ ek, by omega, hb⟩, by show (m : Int).toNat < ((m + 1 : Nat) : Int).toNat; omega⟩
                · have e3 : ¬ x = [] := fun y => e3 (decide_eq_true y)
                  rw [if_neg e3] at hb
                  refine const_by ?_
                  refine ⟨_, rfl, _, rfl, a, _, _, _, rfl, rfl, SqL.of (s5 _ _ (s3 _ _ ha)), atI_nat hx2, _, rfl, px, pk, _, _, rfl, rfl, s5 _ _ hx3, s5 _ _ ek, ?_, fun p6 n6 => ?_⟩
                  · rw [List.length_map, List.length_map]
                    exact sz4 (by omega)
                  rw [← List.map_append]
                  have s6 := s5.trans (same_upd (o := .lst ((x ++ A).map V.int)) n6)
                  exact ⟨⟨m, 0, p6, x ++ A, rfl, s3.trans s6, by omega, upd_same, by rw [List.length_append]; omega, hb⟩, by show (m : Int).toNat < ((m + 1 : Nat) : Int).toNat; omega⟩
              · have e2 : ¬ g < j := fun y => e2 (decide_eq_true (by omega))
                exact rest _ _ (stop (bk_stop _ _ _ _ (by omega)))
            · have e : n = 0 := by
                by_cases z : n = 0
                · exact z
                · exact absurd (decide_eq_true (by omega)) e
              subst e
              exact iteF (rest _ _ (stop rfl))
    · refine while_w (fun σ H' => ∃ (n j : Nat), σ = [some (.ref a), some (.int (p : Int)), some (.int (n : Int)), some (.int (j : Int)), none, none] ∧ Same H H' ∧ n ≤ L.length ∧ trail L.reverse = j + trail (L.take n).reverse ∧ fK p L.reverse = fK p (L.take n).reverse) (fun σ _ => match σ with | [_, _, some (.int n), _, _, _] => n.toNat | _ => 0) ⟨L.length, 0, rfl, Same.refl H, Nat.le_refl _, by rw [List.take_length, Nat.zero_add], by rw [List.take_length]⟩ ?_
      rintro σ H1 ⟨n, j, rfl, s1, hn, ht, hf⟩
      refine ⟨_, rfl, _, _, rfl, rfl, _, rfl, ite2 (fun e => ?_) (fun e => ?_)⟩
      · have e : 0 < n := by have := of_decide_eq_true e; omega
        obtain ⟨m, rfl⟩ : ∃ m, n = m + 1 := ⟨n - 1, by omega⟩
        obtain ⟨x, px, hx1, hx2, hx3, hx4⟩ := item H1 m s1 (by omega)
        refine ⟨_, rfl, _, rfl, _, _, rfl, rfl, a, _, _, _, rfl, rfl, SqL.of (s1 _ _ ha), (by rw [show ((m + 1 : Nat) : Int) - 1 = (m : Int) by omega]; exact atI_nat hx2), Nat.zero_le _, fun p5 n5 => ?_⟩
        have s5 := same_upd (o := .lst []) n5
        refine ⟨_, _, dp_ints (SqL.of (s5 _ _ hx3)), dp_ints (ns := []) (SqL.of upd_same), shaped_ints _, shaped_ints _, ?_⟩
        rw [eqv_ints]
        rw [take_rev hx1] at ht hf
        refine ⟨_, rfl, ite2 (fun e3 => ?_) (fun e3 => ?_)⟩
        · have e3 : x = [] := of_decide_eq_true e3
          have et : trail (x :: (L.take m).reverse) = trail (L.take m).reverse + 1 := if_pos e3
          have ef : fK p (x :: (L.take m).reverse) = fK p (L.take m).reverse := if_pos e3
          rw [et] at ht
          rw [ef] at hf
          refine ⟨wN _ _ _, wN_ok, ?_⟩
          refine ⟨_, rfl, _, _, rfl, rfl, ?_⟩
          refine name_by ?_
          refine ⟨_, rfl, _, _, rfl, rfl, ?_⟩
          exact ⟨⟨m, j + 1, by dsimp only [List.set]; rw [show ((m + 1 : Nat) : Int) - 1 = (m : Int) by omega]; rfl, s1.trans s5, by omega, by omega, hf⟩, by show (((m + 1 : Nat) : Int) - 1).toNat < ((m + 1 : Nat) : Int).toNat; omega⟩
        · have e3 : ¬ x = [] := fun y => e3 (decide_eq_true y)
          have et : trail (x :: (L.take m).reverse) = 0 := if_neg e3
          refine rest _ _ ⟨m + 1, j, rfl, s1.trans s5, hn, by rw [et] at ht; omega, by rw [take_rev hx1]; exact et, by rw [take_rev hx1]; exact hf⟩
      · have e : n = 0 := by
          by_cases z : n = 0
          · exact z
          · exact absurd (decide_eq_true (by omega)) e
        subst e
        exact iteF (rest _ _ ⟨0, j, rfl, s1, hn, ht, rfl, hf⟩)
theorem sc_law : FnScope ["_law_script", "_law_bag_here", "_law_rest", "_law_guard", "_law_rows", "_law_keyed", "_law_through", "_law_turn", "_law_row_here", "_law_told", "_law_found"] ["_law_script"] (defScope s_law) := ⟨rfl, rfl, rfl, by decide +kernel, rfl, by decide +kernel, by decide +kernel⟩
def spLaw (K : PySem.W.Frag) : Sp := fun vs H Q _ => ∃ (a : Addr) (ns : List Int), vs = [.ref a] ∧ SqL K H a (ns.map V.int) ∧ ∀ H', Q (.bl true) H'
def tRows (ps : List Addr) (L : List (List Int)) : Th := ⟨ps, fun H => RowsAt H ps L, fun H H' k h => h.loc k, fun H h a ha => h.pl a ha⟩
theorem gd_made {C x dx : Addr} {n : Nat} {H : Hp} (nx : H x = none) (ndx : H dx = none) : Same H (upd (upd (upd H dx (.own x)) x (.ins C dx [])) x (.ins C dx (gdF n n 0))) ∧ (tGd C x ⟨n, n, 0⟩).P (upd (upd (upd H dx (.own x)) x (.ins C dx [])) x (.ins C dx (gdF n n 0))) := by
  refine ⟨fun a o e => ?_, dx, upd_same⟩
  rw [upd_ne (ne_of_none e nx), upd_ne (ne_of_none e nx), upd_ne (ne_of_none e ndx)]
  exact e
theorem ok_law {f C cN cB : Addr} {fd : FuncData} {k n : Nat} (F : Fun K "law" "law" s_law f fd) (n_list : mg "list" = none) (n_int : mg "int" = none) (n_range : mg "range" = none)
    (cnw_Guard : CalNW P w K mg base k "Guard" C ["self", "pause"] ["pause"] (fun vs zs => vs ++ zs) (spGi C cN)) (c_Guard_beat : CalM (L2.CX P w) P w K mg base (k + 1) C "beat" ["self", "row"] (spGb K C cB)) (c_Guard_held : CalM CX0 P w K mg base (k + 1) C "held" ["self"] (spGh C))
    (c__law_bag : Cal P w K mg base (k + 1) "_law_bag" ["_law_script"] (spBag K)) (c__law_pick : Cal P w K mg base (k + 1) "_law_pick" ["_law_bag_here", "_law_top"] spPick) (c__law_same : Cal P w K mg base (k + 1) "_law_same" ["_law_found", "_law_due"] (spSame K (n + 2))) (c__law_keys : Cal P w K mg base (k + 1) "_law_keys" ["_law_bag_here"] spKeys) (c__law_signed : Cal P w K mg base (k + 1) "_law_signed" ["_law_rows", "_law_rest"] (spSigned K)) :
    FnOk P w K mg base CX0 (k + 2) f fd ["_law_script"] (spLaw K) := by
  have sc := sc_law
  refine F.ok sc (fun vs H Q E h => ?_) (fun cdv A outer s H vs Q E hr h => ?_)
  · obtain ⟨a, ns, rfl, _⟩ := h
    rfl
  · obtain ⟨a, ns, rfl, hS, q⟩ := h
    refine ⟨_, (pss_cons (ps_set (i := 1) sc.nd rfl (.inl rfl) (pe_callC c__law_bag hr (by rfl) (pa_cons (pv 0) pa_nil)))
 (pss_cons (ps_set (i := 2) sc.nd rfl (.inl rfl) (pe_op op_add pe_int (pe_callC c__law_pick hr (by rfl) (pa_cons (pv 1) (pa_cons pe_int pa_nil)))))
 (pss_cons (ps_set (i := 3) sc.nd rfl (.inl rfl) (pe_makeWF cnw_Guard hr (by rfl) (pk_cons (pv 2) pk_nil)))
 (pss_cons (ps_set (i := 4) sc.nd rfl (.inl rfl) (pe_lst pa_nil))
 (pss_cons (ps_set (i := 5) sc.nd rfl (.inl rfl) (pe_lst pa_nil))
 (pss_cons (ps_set (i := 6) sc.nd rfl (.inl rfl) (pe_lst pa_nil))
 (pss_cons (ps_for PassesOwn.never rfl (pi_range1 (by rfl) n_range (pa_cons (pe_op op_add pe_int (pe_callC c__law_pick hr (by rfl) (pa_cons (pv 1) (pa_cons pe_int pa_nil)))) pa_nil)) (pg_name (i := 7) sc.nd rfl (.inl rfl))
  (pss_cons (ps_set (i := 8) sc.nd rfl (.inl rfl) (pe_ifExp (pt_cmpR op_gt (pe_callC c__law_pick hr (by rfl) (pa_cons (pv 1) (pa_cons pe_int pa_nil))) pe_int (nomark _)) (pe_callC c__law_keys hr (by rfl) (pa_cons (pv 1) pa_nil)) (pe_lst pa_nil)))
 (pss_cons (ps_asg (pe_methF (pv 3) c_Guard_beat hr (pa_cons (pe_callTy (call_listK K rfl) (by rfl) n_list (by decide +kernel) (pa_cons (pv 8) pa_nil)) pa_nil)) (pg_tup rfl (pgs_cons (pg_name (i := 9) sc.nd rfl (.inl rfl)) (pgs_cons (pg_name (i := 10) sc.nd rfl (.inl rfl)) pgs_nil))))
 (pss_cons (ps_expr (pe_bmK K rfl PySem.F.plainAttrs_list PySem.F.slot_list_append PySem.F.type_list_append mt_append (pv 4) (pa_cons (pv 8) pa_nil)))
 (pss_cons (ps_set (i := 5) sc.nd rfl (.inl rfl) (pe_op op_cat (pv 5) (pv 8)))
 (pss_cons (ps_set (i := 6) sc.nd rfl (.inl rfl) (pe_op op_cat (pe_op op_cat (pv 6) (pv 9)) (pe_op op_rep (pe_lst (pa_cons pe_int (pa_cons pe_int (pa_cons pe_int pa_nil)))) (pe_callTy call_int1 (by rfl) n_int (by decide +kernel) (pa_cons (pv 10) pa_nil)))))
 (pss_one (ps_if (PW.pt (pw_or (pt_not (pt_val (pe_callC c__law_same hr (by rfl) (pa_cons (pv 10) (pa_cons (pe_callC c__law_signed hr (by rfl) (pa_cons (pv 4) (pa_cons (pv 2) pa_nil))) pa_nil))))) (pw_or1 (pt_cmpR (op_neDK K rfl hr.units) (pv 5) (pe_op op_cat (pv 6) (pe_op op_rep (pe_lst (pa_cons pe_int pa_nil)) (pe_methC0 (pv 3) c_Guard_held hr))) (nomark _)))))
  (pss_one (ps_ret pe_bl))
  pss_nil))))))))
 (pss_one (ps_ret pe_bl))))))))), ?_⟩
    refine ⟨_, rfl, a, ns, rfl, hS, fun H1 b s1 nb hB => ?_⟩
    have h1 : Hs [] [tB b] H1 := Hs.nil0.cons hB (fun j y hj => by cases hj)
    refine ⟨_, rfl, b, 6, rfl, h1.bag, by decide, by decide, fun H2 d2 mv2 hB2 d20 d21 => ⟨_, _, rfl, rfl, ?_⟩⟩
    have h2 := h1.mv mv2 hB2
    obtain ⟨p, ep⟩ : ∃ p : Nat, 1 + d2 = (p : Int) := ⟨(1 + d2).toNat, by omega⟩
    have hp : 0 < p := by omega
    refine name_by ?_
    dsimp only
    rw [ep]
    refine ⟨_, rfl, rfl, rfl, fun x dx nx ndx nex => ⟨x, dx, (p : Int), rfl, upd_same, (fun _ _ => ⟨rfl, ?_⟩), (fun bad => by rcases bad with h | h <;> omega)⟩⟩
    obtain ⟨s3, g3⟩ := gd_made (C := C) (n := p) nx ndx
    have h3 : Hs [] [tGd C x ⟨p, p, 0⟩, tB b] _ := h2.new (T := tGd C x ⟨p, p, 0⟩) s3 g3 (fun a ha => by rw [in1 ha]; exact nx)
    generalize upd (upd (upd H2 dx (.own x)) x (.ins C dx [])) x (.ins C dx (gdF p p 0)) = H3 at h3 ⊢
    clear h1 h2 s3 g3 nx ndx
    refine name_by ?_
    dsimp only
    refine ⟨Nat.zero_le _, fun p4 n4 => ?_⟩
    have h4 := h3.newHU (o := .lst []) n4
    generalize upd H3 p4 (.lst []) = H4 at h4 ⊢
    refine name_by ?_
    refine ⟨Nat.zero_le _, fun p5 n5 => ?_⟩
    have h5 := h4.newHU (o := .lst []) n5
    generalize upd H4 p5 (.lst []) = H5 at h5 ⊢
    refine name_by ?_
    refine ⟨Nat.zero_le _, fun p6 n6 => ?_⟩
    have h6 := h5.newHU (o := .lst []) n6
    generalize upd H5 p6 (.lst []) = H6 at h6 ⊢
    refine name_by ?_
    dsimp only
    have h7 : Hs [] [tB b, tGd C x (stOf p []), tL p4 [], tL p5 [], tL p6 []] H6 := h6.sel [4, 3, 2, 1, 0] (by decide)
    clear h3 h4 h5 h6
    refine ⟨_, rfl, b, 36, rfl, h7.bag, by decide, by decide, fun H8 d8 mv8 hB8 d80 d81 => ⟨_, _, rfl, rfl, _, rfl, by omega, by omega, ?_⟩⟩
    have h8 := h7.mv mv8 hB8
    refine for_range (lo := 0) (n := (5 + d8).toNat) (fun i σ H' => ∃ (L : List (List Int)) (ps : List Addr) (T : List Int) (p5 p6 : Addr) (y7 y8 y9 y10 : Option V), σ = [some (.ref a), some (.ref b.1), some (.int (p : Int)), some (.ref x), some (.ref p4), some (.ref p5), some (.ref p6), y7, y8, y9, y10] ∧
      Hs [] [tB b, tGd C x (stOf p L.reverse), tL p4 (ps.map V.ref), tL p5 (L.flatten.map V.int), tL p6 (T.map V.int), tRows ps L] H' ∧ L.length = i ∧ L.flatten = T ++ List.replicate (mOf p L.reverse) 43 ∧ (∀ x ∈ L, x.length ≤ 5) ∧ L.flatten.length ≤ 5 * i)
      ⟨[], [], [], p5, p6, none, none, none, none, rfl, ?_, rfl, rfl, (fun x hx => absurd hx List.not_mem_nil), Nat.zero_le _⟩ ?_ ?_
    · have h9 : Hs [] [tRows [] [], tB b, tGd C x (stOf p []), tL p4 [], tL p5 [], tL p6 []] H8 := h8.cons (T := tRows [] []) trivial (fun j y _ a ha => absurd ha List.not_mem_nil)
      exact h9.sel [1, 2, 3, 4, 5, 0] (by decide)
    · clear h7 h8 mv8 hB8
      rintro i σ H1 hi ⟨L, ps, T, p5, p6, y7, y8, y9, y10, rfl, h1, hLi, hLT, hL5, hLf⟩
      have hm3 := mOf_le p L.reverse
      have hTl : T.length ≤ 5 * i := by
        have := congrArg List.length hLT
        rw [List.length_append] at this
        omega
      refine asg_by (J := fun v H2 => ∃ (pr : Addr) (row : List Int), v = .ref pr ∧ Hs [] [tB b, tL pr (row.map V.int), tGd C x (stOf p L.reverse), tL p4 (ps.map V.ref), tL p5 (L.flatten.map V.int), tL p6 (T.map V.int), tRows ps L] H2 ∧ Bytes row ∧ row.length ≤ 5) ?_ (fun rest => ?_)
      · rintro v H2 ⟨pr, row, rfl, h2, hby, hrl⟩
        clear h1
        obtain ⟨dx, hins⟩ : (tGd C x (stOf p L.reverse)).P H2 := h2.get 2 rfl
        refine ⟨_, rfl, x, dx, _, rfl, hins, rfl, _, rfl, pr, _, rfl, .inl (SqL.of (h2.at 1 rfl)), fun pc npc => ?_⟩
        have h3 : Hs [] [tL pc (row.map V.int), tB b, tL pr (row.map V.int), tGd C x (stOf p L.reverse), tL p4 (ps.map V.ref), tL p5 (L.flatten.map V.int), tL p6 (T.map V.int), tRows ps L] _ := h2.newHU (o := .lst (row.map V.int)) npc
        generalize upd H2 pc (.lst (row.map V.int)) = H3 at h3 ⊢
        clear hins
        refine ⟨x, pc, stOf p L.reverse, row, rfl, h3.get 3 rfl, SqL.of (h3.at 0 rfl), by show mOf p L.reverse ≤ 1000; omega, by omega, (fun _ H4 t o G => ?_), (fun i z hz nz _ => absurd (hby z (List.mem_of_getElem? hz)) nz)⟩
        obtain ⟨eb1, eb2, eb3⟩ := beat_hist hp L.reverse row
        obtain ⟨Gmv, Gnt, Gno, Get, Geo, Ger⟩ := G
        rw [eb1] at Ger
        generalize (gBeat (stOf p L.reverse) row).2.1 = told at *
        rw [eb2] at Get eb3
        have hst : stOf p (row :: L.reverse) = stOf p (L ++ [row]).reverse := by rw [List.reverse_append]; rfl
        rw [hst] at Ger
        have h4a := h3.opNew (T := tGd C x (stOf p L.reverse)) (T' := tGd C x (stOf p (L ++ [row]).reverse)) (N := tL o (told.map V.int)) 3 rfl Gmv (fun a ha => .inl ha) Ger (fun a ha => .inl ha) ⟨Geo, trivial⟩ (fun a ha => by
          rw [in1 ha]
          refine ⟨Gno, fun z => ?_⟩
          obtain ⟨dx, hins⟩ : (tGd C x (stOf p L.reverse)).P H3 := h3.get 3 rfl
          exact ne_of_none hins Gno (in1 z).symm)
        have h4 : Hs [] [tB b, tL pr (row.map V.int), tGd C x (stOf p (L ++ [row]).reverse), tL p4 (ps.map V.ref), tL p5 (L.flatten.map V.int), tL p6 (T.map V.int), tRows ps L, tL o (told.map V.int)] H4 := h4a.sel [2, 3, 4, 5, 6, 7, 8, 0] (by decide)
        clear h3 h4a Gmv Gno Geo Ger
        refine ⟨t, _, rfl, SqT.of Get, rfl, _, _, rfl, _, _, rfl, rfl, ?_⟩
        -- rows
        refine ⟨_, rfl, .inl ⟨rfl, _, SqL.of (h4.at 3 rfl)⟩, _, rfl, p4, _, _, rfl, rfl, h4.at 3 rfl, ?_, ?_⟩
        · have hl : ps.length = L.length := RowsAt.len (h4.get 6 rfl)
          rw [List.length_map]
          exact sz4l (by omega)
        have h5a := h4.put (o' := .lst (ps.map V.ref ++ [.ref pr])) 3 rfl
        generalize upd H4 p4 (.lst (ps.map V.ref ++ [.ref pr])) = H5 at h5a ⊢
        have h5b : Hs [] [tL pr (row.map V.int), tRows ps L, tB b, tGd C x (stOf p (L ++ [row]).reverse), tL p4 (ps.map V.ref ++ [.ref pr]), tL p5 (L.flatten.map V.int), tL p6 (T.map V.int), tL o (told.map V.int)] H5 := h5a.sel [1, 6, 0, 2, 3, 4, 5, 7] (by decide)
        clear h4 h5a Get Gnt
        -- keyed
        refine ⟨_, rfl, _, rfl, p5, pr, _, _, rfl, rfl, h5b.at 5 rfl, h5b.at 0 rfl, ?_, fun q5 nq5 => ?_⟩
        · rw [List.length_map, List.length_map]
          exact sz4 (by omega)
        rw [← List.map_append]
        have eL : L.flatten ++ row = (L ++ [row]).flatten := by simp
        rw [eL]
        have h6a := h5b.newHU (o := .lst ((L ++ [row]).flatten.map V.int)) nq5
        generalize upd H5 q5 (.lst ((L ++ [row]).flatten.map V.int)) = H6 at h6a ⊢
        have h6b : Hs [] [tL pr (row.map V.int), tRows ps L, tB b, tGd C x (stOf p (L ++ [row]).reverse), tL p4 (ps.map V.ref ++ [.ref pr]), tL q5 ((L ++ [row]).flatten.map V.int), tL p6 (T.map V.int), tL o (told.map V.int)] H6 := h6a.sel [1, 2, 3, 4, 5, 0, 7, 8] (by decide)
        have h6c : Hs [] [tRows (ps ++ [pr]) (L ++ [row]), tB b, tGd C x (stOf p (L ++ [row]).reverse), tL p4 (ps.map V.ref ++ [.ref pr]), tL q5 ((L ++ [row]).flatten.map V.int), tL p6 (T.map V.int), tL o (told.map V.int)] H6 := h6b.merge (C := tRows (ps ++ [pr]) (L ++ [row])) (RowsAt.snoc (h6b.at 0 rfl) (h6b.get 1 rfl)) (fun a ha => by
          rcases List.mem_append.mp ha with z | z
          · exact .inr z
          · exact .inl z)
        clear h5b h6a h6b
        refine name_by ?_
        dsimp only
        have hrep : (mOf p (row :: L.reverse)) ≤ 3 := mOf_le _ _
        have hto : told.length ≤ 8 := by
          have := congrArg List.length eb3
          simp only [List.length_append, List.length_replicate] at this
          omega
        -- through
        refine ⟨_, rfl, _, rfl, p6, o, _, _, rfl, rfl, h6c.at 5 rfl, h6c.at 6 rfl, ?_, fun q7 nq7 => ?_⟩
        · rw [List.length_map, List.length_map]
          exact sz4 (by omega)
        rw [← List.map_append]
        have h7 := h6c.newHU (o := .lst ((T ++ told).map V.int)) nq7
        generalize upd H6 q7 (.lst ((T ++ told).map V.int)) = H7 at h7 ⊢
        refine ⟨(by show 3 ≤ sizeLine; decide), fun q8 nq8 => ?_⟩
        have h8 := h7.newHU (o := .lst [.int 43, .int 43, .int 43]) nq8
        generalize upd H7 q8 (.lst [.int 43, .int 43, .int 43]) = H8 at h8 ⊢
        refine ⟨_, rfl, .inr ⟨_, rfl, q8, _, _, rfl, rfl, h8.at 0 rfl, ?_, ?_, ?_, fun q9 nq9 => ?_⟩⟩
        · split <;> decide
        · split <;> decide
        · split <;> exact sz4 (by decide)
        have et : (List.replicate (if sgn p (row :: L.reverse) = true then (1 : Int) else 0).toNat [V.int 43, V.int 43, V.int 43]).flatten = (tail43 (sgn p (row :: L.reverse))).map V.int := by
          cases sgn p (row :: L.reverse) <;> rfl
        rw [et]
        have h9 := h8.newHU (o := .lst ((tail43 (sgn p (row :: L.reverse))).map V.int)) nq9
        generalize upd H8 q9 (.lst ((tail43 (sgn p (row :: L.reverse))).map V.int)) = H9 at h9 ⊢
        have ht43 : (tail43 (sgn p (row :: L.reverse))).length ≤ 3 := by
          cases sgn p (row :: L.reverse) <;> decide
        refine ⟨q7, q9, _, _, rfl, rfl, h9.at 2 rfl, h9.at 0 rfl, ?_, fun q10 nq10 => ?_⟩
        · rw [List.length_map, List.length_map, List.length_append]
          exact sz4 (by omega)
        rw [← List.map_append]
        have h10a := h9.newHU (o := .lst ((T ++ told ++ tail43 (sgn p (row :: L.reverse))).map V.int)) nq10
        generalize upd H9 q10 (.lst ((T ++ told ++ tail43 (sgn p (row :: L.reverse))).map V.int)) = H10 at h10a ⊢
        have h10 : Hs [] [tB b, tGd C x (stOf p (L ++ [row]).reverse), tL p4 (ps.map V.ref ++ [.ref pr]), tL q5 ((L ++ [row]).flatten.map V.int), tL q10 ((T ++ told ++ tail43 (sgn p (row :: L.reverse))).map V.int), tRows (ps ++ [pr]) (L ++ [row])] H10 := h10a.sel [5, 6, 7, 8, 0, 4] (by decide)
        clear h6c h7 h8 h9 h10a
        refine name_by ?_
        dsimp only
        have emap : ps.map V.ref ++ [V.ref pr] = (ps ++ [pr]).map V.ref := by rw [List.map_append]; rfl
        rw [emap] at h10
        have erev : (L ++ [row]).reverse = row :: L.reverse := by rw [List.reverse_append]; rfl
        have hLT' : (L ++ [row]).flatten = T ++ told ++ tail43 (sgn p (row :: L.reverse)) ++ List.replicate (mOf p (L ++ [row]).reverse) 43 := by
          rw [← eL, hLT, List.append_assoc, eb3, erev]
          simp only [List.append_assoc]
        have hL5' : ∀ x ∈ L ++ [row], x.length ≤ 5 := fun x hx => by
          rcases List.mem_append.mp hx with z | z
          · exact hL5 x z
          · rw [List.mem_singleton.mp z]
            exact hrl
        have hLl : (L ++ [row]).length = i + 1 := by rw [List.length_append, hLi]; rfl
        refine ⟨_, rfl, _, rfl, _, rfl, p4, ps ++ [pr], L ++ [row], p, rfl, h10.at 2 rfl, h10.get 5 rfl, hp, by omega, by omega, (fun x hx => by have := hL5' x hx; omega), fun H11 s11 => ?_⟩
        rw [erev]
        have h11 := h10.same s11
        refine ⟨.bl (sgn p (row :: L.reverse)), .bl (sgn p (row :: L.reverse)), .bool (sgn p (row :: L.reverse)), rfl, .bl _, .bl _, .inl ⟨_, rfl⟩, rfl, fun H12 s12 => ⟨_, rfl, iteF ?_⟩⟩
        have h12 := h11.same s12
        refine ⟨_, rfl, _, rfl, (by show 1 ≤ sizeLine; decide), fun q13 nq13 => ?_⟩
        have h13 := h12.newHU (o := .lst [.int 43]) nq13
        generalize upd H12 q13 (.lst [.int 43]) = H13 at h13 ⊢
        obtain ⟨dx, hins⟩ : (tGd C x (stOf p (L ++ [row]).reverse)).P H13 := h13.get 2 rfl
        refine ⟨_, rfl, x, dx, _, rfl, hins, rfl, x, stOf p (L ++ [row]).reverse, rfl, h13.get 2 rfl, q13, _, _, rfl, rfl, h13.at 0 rfl, ?_, ?_, ?_, fun q14 nq14 => ?_⟩
        · show -(2 ^ 63) ≤ ((mOf p (L ++ [row]).reverse : Nat) : Int)
          omega
        · show ((mOf p (L ++ [row]).reverse : Nat) : Int) < 2 ^ 63
          rw [erev]
          omega
        · show 1 * ((mOf p (L ++ [row]).reverse : Nat) : Int).toNat ≤ sizeLine
          rw [erev]
          exact sz4 (by omega)
        rw [rep1]
        have em : ((stOf p (L ++ [row]).reverse).m : Int).toNat = mOf p (L ++ [row]).reverse := Int.toNat_natCast _
        rw [em]
        have h14 := h13.newHU (o := .lst ((List.replicate (mOf p (L ++ [row]).reverse) (43 : Int)).map V.int)) nq14
        generalize upd H13 q14 (.lst ((List.replicate (mOf p (L ++ [row]).reverse) (43 : Int)).map V.int)) = H14 at h14 ⊢
        refine ⟨q10, q14, _, _, rfl, rfl, h14.at 6 rfl, h14.at 0 rfl, ?_, fun q15 nq15 => ?_⟩
        · rw [List.length_map, List.length_map, List.length_append, List.length_append, List.length_replicate, erev]
          exact sz4 (by omega)
        rw [← List.map_append, ← hLT']
        have h15 := h14.newHU (o := .lst ((L ++ [row]).flatten.map V.int)) nq15
        generalize upd H14 q15 (.lst ((L ++ [row]).flatten.map V.int)) = H15 at h15 ⊢
        refine ⟨_, _, dp_ints (SqL.of (h15.at 6 rfl)), dp_ints (SqL.of (h15.at 0 rfl)), shaped_ints _, shaped_ints _, ?_⟩
        rw [eqv_ints, decide_eq_true rfl]
        refine ⟨_, rfl, iteF ?_⟩
        refine ⟨L ++ [row], ps ++ [pr], T ++ told ++ tail43 (sgn p (row :: L.reverse)), q5, q10, _, _, _, _, rfl, h15.sel [3, 4, 5, 6, 7, 8] (by decide), hLl, hLT', hL5', ?_⟩
        rw [← eL, List.length_append]
        omega
      · refine ⟨_, rfl, b, 3, rfl, h1.bag, by decide, by decide, fun H2 d mv2 hB2 d0 d1 => ⟨_, _, rfl, rfl, _, rfl, ite2 (fun e => ?_) (fun e => ?_)⟩⟩
        · have h2 := h1.mv mv2 hB2
          refine ⟨_, rfl, b, rfl, h2.bag, fun H3 pr row mv3 hB3 n3 e3 hby hl => ?_⟩
          exact rest _ _ ⟨pr, row, rfl, h2.newM mv3 hB3 n3 e3, hby, hl⟩
        · have h2 := h1.mv mv2 hB2
          refine ⟨Nat.zero_le _, fun pr npr => ?_⟩
          exact rest _ _ ⟨pr, [], rfl, h2.newU (o := .lst []) npr, bytes_nil, by decide⟩
    · rintro σ H1 ⟨L, ps, T, p5, p6, y7, y8, y9, y10, rfl, h1, _⟩
      exact q H1
end
/-! ### the end -/
theorem all_mk {l : PySem.W.OpenLaw} {w : World} {K : PySem.W.Frag} {h : Heap} {mg : Str → Option Value} {fa f0 f1 f2 f3 f4 f5 f6 f7 f8 f9 f10 f11 f12 : Addr} (X : K.In h) (G : h.Ns mainGlobals mg) (hfa : mg "law" = some (.ref fa))
    {cGuard : Addr}
    {oc0 : Value} {od0 an0 : Option Addr} {sl0 : Array (Option Value)} {kV0 dc0 pm0 cd0 ct0 : Value}
    {oc1 : Value} {od1 an1 : Option Addr} {sl1 : Array (Option Value)} { dc1 pm1 cd1 ct1 : Value}
    {D1 : Addr} {tD1 : Tok}
    {oc2 : Value} {od2 an2 : Option Addr} {sl2 : Array (Option Value)} {kV2 dc2 pm2 cd2 ct2 : Value}
    {oc3 : Value} {od3 an3 : Option Addr} {sl3 : Array (Option Value)} {kV3 dc3 pm3 cd3 ct3 : Value}
    {oc4 : Value} {od4 an4 : Option Addr} {sl4 : Array (Option Value)} {kV4 dc4 pm4 cd4 ct4 : Value}
    {oc5 : Value} {od5 an5 : Option Addr} {sl5 : Array (Option Value)} {kV5 dc5 pm5 cd5 ct5 : Value}
    {oc6 : Value} {od6 an6 : Option Addr} {sl6 : Array (Option Value)} {kV6 dc6 pm6 cd6 ct6 : Value}
    {oc7 : Value} {od7 an7 : Option Addr} {sl7 : Array (Option Value)} {kV7 dc7 pm7 cd7 ct7 : Value}
    {oc8 : Value} {od8 an8 : Option Addr} {sl8 : Array (Option Value)} {kV8 dc8 pm8 cd8 ct8 : Value}
    {oc9 : Value} {od9 an9 : Option Addr} {sl9 : Array (Option Value)} {kV9 dc9 pm9 cd9 ct9 : Value}
    {oc10 : Value} {od10 an10 : Option Addr} {sl10 : Array (Option Value)} {kV10 dc10 pm10 cd10 ct10 : Value}
    {oc11 : Value} {od11 an11 : Option Addr} {sl11 : Array (Option Value)} {kV11 dc11 pm11 cd11 ct11 : Value}
    {oc12 : Value} {od12 an12 : Option Addr} {sl12 : Array (Option Value)} {kV12 dc12 pm12 cd12 ct12 : Value}
    {cLE fLE dLE : Addr} {ocLE : Value} {odLE anLE : Option Addr} {slLE : Array (Option Value)} {kVLE dcLE pmLE cdLE ctLE : Value} {oD : Option Addr} {mD : Nat} {slD : Array (Option Value)} {tLe1 tLe2 : Tok}
    {xBadByte : Addr}
    {xBadCount : Addr}
    {fIBadByte : Addr} {nmBadByte qBadByte : Str} {NBadByte : Addr} {bsBadByte bmBadByte : List Value} {snBadByte : List Str} {subBadByte : List Value} {abBadByte : Bool} {colBadByte : Option Bool} {ddBadByte : Option Addr} {kaBadByte kbBadByte kcBadByte kdBadByte keBadByte : Option Value}
    {ocBadByte : Value} {odBadByte anBadByte : Option Addr} {slBadByte : Array (Option Value)} {kVBadByte dcBadByte pmBadByte cdBadByte ctBadByte : Value}
    {fIBadCount : Addr} {nmBadCount qBadCount : Str} {NBadCount : Addr} {bsBadCount bmBadCount : List Value} {snBadCount : List Str} {subBadCount : List Value} {abBadCount : Bool} {colBadCount : Option Bool} {ddBadCount : Option Addr} {kaBadCount kbBadCount kcBadCount kdBadCount keBadCount : Option Value}
    {ocBadCount : Value} {odBadCount anBadCount : Option Addr} {slBadCount : Array (Option Value)} {kVBadCount dcBadCount pmBadCount cdBadCount ctBadCount : Value}
    {t_GREATEST_BYTE : Tok}
    {t_PAUSE : Tok}
    {t_MARK_KEY : Tok}
    {t_SIGN_MARKS : Tok}
    {t_LONGEST_PAUSE : Tok}
    (r1Guard : PySem.W.nsIn K mainGlobals "Guard" = some (some (.ref cGuard)))
    (r2Guard : PySem.W.plainGet K cGuard Str.empty = true)
    (r3Guard : PySem.W.hasDictIn K cGuard = true)
    (r4Guard : PySem.W.plainOver K cGuard = true)
    (r5Guard : PySem.W.findIn K (.ref cGuard) "__setattr__" = some (some (.builtin "object.__setattr__")))
    (r6Guard : PySem.W.makesIn K cGuard = true)
    (r7Guard : PySem.W.keepIn K (.ref cGuard) = true)
    (r_Guard_pause : PySem.W.findIn K (.ref cGuard) "pause" = some none)
    (r_Guard_silent : PySem.W.findIn K (.ref cGuard) "silent" = some none)
    (r_Guard_marks : PySem.W.findIn K (.ref cGuard) "marks" = some none)
    (a0 : PySem.W.nsIn K mainGlobals "check_bytes" = some (some (.ref f0)))
    (l0 : K.lookup f0 = some ⟨oc0, od0, .func (PySem.W.fnOf "check_bytes" "check_bytes" (defArgs s_check_bytes) (defBody s_check_bytes) (defScope s_check_bytes) .none kV0 dc0 pm0 an0 cd0 ct0), sl0⟩)
    (c0 : PySem.W.codeIn K cd0 "check_bytes" = true)
    (k0 : PySem.W.keepIn K (.ref f0) = true)
    (a1 : PySem.W.findIn K (.ref cGuard) "__init__" = some (some (.ref f1)))
    (i1 : PySem.W.isFn K (.ref f1) = true)
    (l1 : K.lookup f1 = some ⟨oc1, od1, .func (PySem.W.fnOf "__init__" "Guard.__init__" (defArgs m_Guard___init__) (defBody m_Guard___init__) (defScope m_Guard___init__) .none (.ref D1) dc1 pm1 an1 cd1 ct1), sl1⟩)
    (v1 : PySem.W.nsIn K D1 "pause" = some (some (.int 3 tD1)))
    (c1 : PySem.W.codeIn K cd1 "Guard.__init__" = true)
    (k1 : PySem.W.keepIn K (.ref f1) = true)
    (a2 : PySem.W.findIn K (.ref cGuard) "beat_of_silence" = some (some (.ref f2)))
    (i2 : PySem.W.isFn K (.ref f2) = true)
    (l2 : K.lookup f2 = some ⟨oc2, od2, .func (PySem.W.fnOf "beat_of_silence" "Guard.beat_of_silence" (defArgs m_Guard_beat_of_silence) (defBody m_Guard_beat_of_silence) (defScope m_Guard_beat_of_silence) .none kV2 dc2 pm2 an2 cd2 ct2), sl2⟩)
    (c2 : PySem.W.codeIn K cd2 "Guard.beat_of_silence" = true)
    (k2 : PySem.W.keepIn K (.ref f2) = true)
    (a3 : PySem.W.findIn K (.ref cGuard) "beat" = some (some (.ref f3)))
    (i3 : PySem.W.isFn K (.ref f3) = true)
    (l3 : K.lookup f3 = some ⟨oc3, od3, .func (PySem.W.fnOf "beat" "Guard.beat" (defArgs m_Guard_beat) (defBody m_Guard_beat) (defScope m_Guard_beat) .none kV3 dc3 pm3 an3 cd3 ct3), sl3⟩)
    (c3 : PySem.W.codeIn K cd3 "Guard.beat" = true)
    (k3 : PySem.W.keepIn K (.ref f3) = true)
    (a4 : PySem.W.findIn K (.ref cGuard) "held" = some (some (.ref f4)))
    (i4 : PySem.W.isFn K (.ref f4) = true)
    (l4 : K.lookup f4 = some ⟨oc4, od4, .func (PySem.W.fnOf "held" "Guard.held" (defArgs m_Guard_held) (defBody m_Guard_held) (defScope m_Guard_held) .none kV4 dc4 pm4 an4 cd4 ct4), sl4⟩)
    (c4 : PySem.W.codeIn K cd4 "Guard.held" = true)
    (k4 : PySem.W.keepIn K (.ref f4) = true)
    (a5 : PySem.W.nsIn K mainGlobals "_law_bag" = some (some (.ref f5)))
    (l5 : K.lookup f5 = some ⟨oc5, od5, .func (PySem.W.fnOf "_law_bag" "_law_bag" (defArgs s__law_bag) (defBody s__law_bag) (defScope s__law_bag) .none kV5 dc5 pm5 an5 cd5 ct5), sl5⟩)
    (c5 : PySem.W.codeIn K cd5 "_law_bag" = true)
    (k5 : PySem.W.keepIn K (.ref f5) = true)
    (a6 : PySem.W.nsIn K mainGlobals "_law_pick" = some (some (.ref f6)))
    (l6 : K.lookup f6 = some ⟨oc6, od6, .func (PySem.W.fnOf "_law_pick" "_law_pick" (defArgs s__law_pick) (defBody s__law_pick) (defScope s__law_pick) .none kV6 dc6 pm6 an6 cd6 ct6), sl6⟩)
    (c6 : PySem.W.codeIn K cd6 "_law_pick" = true)
    (k6 : PySem.W.keepIn K (.ref f6) = true)
    (a7 : PySem.W.nsIn K mainGlobals "_law_of" = some (some (.ref f7)))
    (l7 : K.lookup f7 = some ⟨oc7, od7, .func (PySem.W.fnOf "_law_of" "_law_of" (defArgs s__law_of) (defBody s__law_of) (defScope s__law_of) .none kV7 dc7 pm7 an7 cd7 ct7), sl7⟩)
    (c7 : PySem.W.codeIn K cd7 "_law_of" = true)
    (k7 : PySem.W.keepIn K (.ref f7) = true)
    (a8 : PySem.W.nsIn K mainGlobals "_law_same" = some (some (.ref f8)))
    (l8 : K.lookup f8 = some ⟨oc8, od8, .func (PySem.W.fnOf "_law_same" "_law_same" (defArgs s__law_same) (defBody s__law_same) (defScope s__law_same) .none kV8 dc8 pm8 an8 cd8 ct8), sl8⟩)
    (c8 : PySem.W.codeIn K cd8 "_law_same" = true)
    (k8 : PySem.W.keepIn K (.ref f8) = true)
    (a9 : PySem.W.nsIn K mainGlobals "_law_row" = some (some (.ref f9)))
    (l9 : K.lookup f9 = some ⟨oc9, od9, .func (PySem.W.fnOf "_law_row" "_law_row" (defArgs s__law_row) (defBody s__law_row) (defScope s__law_row) .none kV9 dc9 pm9 an9 cd9 ct9), sl9⟩)
    (c9 : PySem.W.codeIn K cd9 "_law_row" = true)
    (k9 : PySem.W.keepIn K (.ref f9) = true)
    (a10 : PySem.W.nsIn K mainGlobals "_law_keys" = some (some (.ref f10)))
    (l10 : K.lookup f10 = some ⟨oc10, od10, .func (PySem.W.fnOf "_law_keys" "_law_keys" (defArgs s__law_keys) (defBody s__law_keys) (defScope s__law_keys) .none kV10 dc10 pm10 an10 cd10 ct10), sl10⟩)
    (c10 : PySem.W.codeIn K cd10 "_law_keys" = true)
    (k10 : PySem.W.keepIn K (.ref f10) = true)
    (a11 : PySem.W.nsIn K mainGlobals "_law_signed" = some (some (.ref f11)))
    (l11 : K.lookup f11 = some ⟨oc11, od11, .func (PySem.W.fnOf "_law_signed" "_law_signed" (defArgs s__law_signed) (defBody s__law_signed) (defScope s__law_signed) .none kV11 dc11 pm11 an11 cd11 ct11), sl11⟩)
    (c11 : PySem.W.codeIn K cd11 "_law_signed" = true)
    (k11 : PySem.W.keepIn K (.ref f11) = true)
    (a12 : PySem.W.nsIn K mainGlobals "law" = some (some (.ref f12)))
    (l12 : K.lookup f12 = some ⟨oc12, od12, .func (PySem.W.fnOf "law" "law" (defArgs s_law) (defBody s_law) (defScope s_law) .none kV12 dc12 pm12 an12 cd12 ct12), sl12⟩)
    (c12 : PySem.W.codeIn K cd12 "law" = true)
    (k12 : PySem.W.keepIn K (.ref f12) = true)
    (e1 : PySem.W.nsIn K mainGlobals "LineError" = some (some (.ref cLE)))
    (e2 : PySem.W.specialIn K (.ref cLE) "__getattribute__" = some (some (.builtin "type.__getattribute__")))
    (e3 : PySem.W.typeIn K (.ref cLE) = some (.type "type"))
    (e4 : PySem.W.readsIn K cLE (.type "type") = true)
    (e5 : PySem.W.findCls K (.ref cLE) (.type "type") "__init__" = some (.val (.ref fLE)))
    (e6 : PySem.W.keepIn K (.ref fLE) = true)
    (e7 : K.lookup fLE = some ⟨ocLE, odLE, .func (PySem.W.fnOf "__init__" "LineError.__init__" (defArgs i_LineError) (defBody i_LineError) (defScope i_LineError) (.ref dLE) kVLE dcLE pmLE anLE cdLE ctLE), slLE⟩)
    (e8 : PySem.W.codeIn K cdLE "LineError.__init__" = true)
    (e9 : K.lookup dLE = some ⟨.type "tuple", oD, .seq #[.str "LineError" tLe1, .str "refused" tLe2] mD, slD⟩)
    (e10 : PySem.W.findCls K (.type "ValueError") (.type "type") "__init__" = some (.val (.builtin "ValueError.__init__")))
    (z_ValueError : PySem.W.nsIn K mainGlobals "ValueError" = some none)
    (gBadByte : PySem.W.nsIn K mainGlobals "BadByte" = some (some (.ref xBadByte)))
    (gaBadByte : PySem.W.findIn K (.ref xBadByte) "__getattribute__" = some (some (.builtin "BaseException.__getattribute__")))
    (ggBadByte : PySem.W.findIn K (.ref xBadByte) "__getattr__" = some none)
    (exBadByte : PySem.W.subIn K (.ref xBadByte) (.type "BaseException") = some true)
    (hdBadByte : PySem.W.hasDictIn K xBadByte = true)
    (noBadByte : PySem.W.findIn K (.ref xBadByte) "at" = some none)
    (gBadCount : PySem.W.nsIn K mainGlobals "BadCount" = some (some (.ref xBadCount)))
    (gaBadCount : PySem.W.findIn K (.ref xBadCount) "__getattribute__" = some (some (.builtin "BaseException.__getattribute__")))
    (ggBadCount : PySem.W.findIn K (.ref xBadCount) "__getattr__" = some none)
    (exBadCount : PySem.W.subIn K (.ref xBadCount) (.type "BaseException") = some true)
    (hdBadCount : PySem.W.hasDictIn K xBadCount = true)
    (o1BadByte : K.lookup xBadByte = some (excClassObj nmBadByte qBadByte xBadByte NBadByte bsBadByte bmBadByte true snBadByte subBadByte abBadByte colBadByte ddBadByte kaBadByte kbBadByte kcBadByte kdBadByte keBadByte "ValueError.__new__"))
    (o2BadByte : PySem.HandSPX.refsVE bmBadByte = true)
    (o3BadByte : PySem.W.findIn K (.ref xBadByte) "__setattr__" = some (some (.builtin "object.__setattr__")))
    (o4BadByte : PySem.W.typeIn K (.ref xBadByte) = some (.type "type"))
    (o5BadByte : PySem.W.keepIn K (.ref xBadByte) = true)
    (o6BadByte : PySem.W.findIn K (.ref xBadByte) "__init__" = some (some (.ref fIBadByte)))
    (o7BadByte : PySem.W.typeIn K (.ref fIBadByte) = some (.type "function"))
    (o8BadByte : K.lookup fIBadByte = some ⟨ocBadByte, odBadByte, .func (PySem.W.fnOf "__init__" "BadByte.__init__" (defArgs i_BadByte) (defBody i_BadByte) (defScope i_BadByte) .none kVBadByte dcBadByte pmBadByte anBadByte cdBadByte ctBadByte), slBadByte⟩)
    (o9BadByte : PySem.W.codeIn K cdBadByte "BadByte.__init__" = true)
    (p1BadByte : PySem.W.keepIn K (.ref fIBadByte) = true)
    (p2BadByte : PySem.W.findIn K (.ref xBadByte) "word" = some none)
    (o1BadCount : K.lookup xBadCount = some (excClassObj nmBadCount qBadCount xBadCount NBadCount bsBadCount bmBadCount true snBadCount subBadCount abBadCount colBadCount ddBadCount kaBadCount kbBadCount kcBadCount kdBadCount keBadCount "ValueError.__new__"))
    (o2BadCount : PySem.HandSPX.refsVE bmBadCount = true)
    (o3BadCount : PySem.W.findIn K (.ref xBadCount) "__setattr__" = some (some (.builtin "object.__setattr__")))
    (o4BadCount : PySem.W.typeIn K (.ref xBadCount) = some (.type "type"))
    (o5BadCount : PySem.W.keepIn K (.ref xBadCount) = true)
    (o6BadCount : PySem.W.findIn K (.ref xBadCount) "__init__" = some (some (.ref fIBadCount)))
    (o7BadCount : PySem.W.typeIn K (.ref fIBadCount) = some (.type "function"))
    (o8BadCount : K.lookup fIBadCount = some ⟨ocBadCount, odBadCount, .func (PySem.W.fnOf "__init__" "BadCount.__init__" (defArgs i_BadCount) (defBody i_BadCount) (defScope i_BadCount) .none kVBadCount dcBadCount pmBadCount anBadCount cdBadCount ctBadCount), slBadCount⟩)
    (o9BadCount : PySem.W.codeIn K cdBadCount "BadCount.__init__" = true)
    (p1BadCount : PySem.W.keepIn K (.ref fIBadCount) = true)
    (p2BadCount : PySem.W.findIn K (.ref xBadCount) "word" = some none)
    (z_enumerate : PySem.W.nsIn K mainGlobals "enumerate" = some none)
    (z_len : PySem.W.nsIn K mainGlobals "len" = some none)
    (z_list : PySem.W.nsIn K mainGlobals "list" = some none)
    (z_all : PySem.W.nsIn K mainGlobals "all" = some none)
    (z_bool : PySem.W.nsIn K mainGlobals "bool" = some none)
    (z_int : PySem.W.nsIn K mainGlobals "int" = some none)
    (z_isinstance : PySem.W.nsIn K mainGlobals "isinstance" = some none)
    (z_range : PySem.W.nsIn K mainGlobals "range" = some none)
    (z_str : PySem.W.nsIn K mainGlobals "str" = some none)
    (z_tuple : PySem.W.nsIn K mainGlobals "tuple" = some none)
    (q_GREATEST_BYTE : PySem.W.nsIn K mainGlobals "GREATEST_BYTE" = some (some (.int 255 t_GREATEST_BYTE)))
    (q_PAUSE : PySem.W.nsIn K mainGlobals "PAUSE" = some (some (.int 3 t_PAUSE)))
    (q_MARK_KEY : PySem.W.nsIn K mainGlobals "MARK_KEY" = some (some (.int 43 t_MARK_KEY)))
    (q_SIGN_MARKS : PySem.W.nsIn K mainGlobals "SIGN_MARKS" = some (some (.int 3 t_SIGN_MARKS)))
    (q_LONGEST_PAUSE : PySem.W.nsIn K mainGlobals "LONGEST_PAUSE" = some (some (.int 20 t_LONGEST_PAUSE))) :
    ∃ fd : FuncData, (∀ (s : Shared) (v : Value), BindsTo s fd ⟨[v], []⟩ [("_law_script", v)]) ∧ ∀ base : Heap, K.In base → base.Ns mainGlobals mg → FnOk l.prog w K mg base CX0 6 fa fd ["_law_script"] (spLaw K) := by
  have e := hfa.symm.trans (PySem.W.mg_of X G a12)
  cases e
  have F0 := fun_mk (st := s_check_bytes) l0 c0 k0
  have b0 := F0.binds (ps := ["row"]) fun _ _ _ _ _ _ us hl => match us, hl with | [_], _ => rfl
  have F1 := funD_one (x := "__init__") (qual := "Guard.__init__") (params := defArgs m_Guard___init__) (body := defBody m_Guard___init__) (scope := defScope m_Guard___init__) (y := "pause") (v := .int 3) l1 c1 k1 v1 ⟨_, rfl⟩
  have F2 := fun_mk (st := m_Guard_beat_of_silence) l2 c2 k2
  have b2 := F2.binds (ps := ["self"]) fun _ _ _ _ _ _ us hl => match us, hl with | [_], _ => rfl
  have F3 := fun_mk (st := m_Guard_beat) l3 c3 k3
  have b3 := F3.binds (ps := ["self", "row"]) fun _ _ _ _ _ _ us hl => match us, hl with | [_, _], _ => rfl
  have F4 := fun_mk (st := m_Guard_held) l4 c4 k4
  have b4 := F4.binds (ps := ["self"]) fun _ _ _ _ _ _ us hl => match us, hl with | [_], _ => rfl
  have F5 := fun_mk (st := s__law_bag) l5 c5 k5
  have b5 := F5.binds (ps := ["_law_script"]) fun _ _ _ _ _ _ us hl => match us, hl with | [_], _ => rfl
  have F6 := fun_mk (st := s__law_pick) l6 c6 k6
  have b6 := F6.binds (ps := ["_law_bag_here", "_law_top"]) fun _ _ _ _ _ _ us hl => match us, hl with | [_, _], _ => rfl
  have F7 := fun_mk (st := s__law_of) l7 c7 k7
  have b7 := F7.binds (ps := ["_law_bag_here", "_law_some"]) fun _ _ _ _ _ _ us hl => match us, hl with | [_, _], _ => rfl
  have F8 := fun_mk (st := s__law_same) l8 c8 k8
  have b8 := F8.binds (ps := ["_law_found", "_law_due"]) fun _ _ _ _ _ _ us hl => match us, hl with | [_, _], _ => rfl
  have F9 := fun_mk (st := s__law_row) l9 c9 k9
  have b9 := F9.binds (ps := ["_law_bag_here", "_law_most"]) fun _ _ _ _ _ _ us hl => match us, hl with | [_, _], _ => rfl
  have F10 := fun_mk (st := s__law_keys) l10 c10 k10
  have b10 := F10.binds (ps := ["_law_bag_here"]) fun _ _ _ _ _ _ us hl => match us, hl with | [_], _ => rfl
  have F11 := fun_mk (st := s__law_signed) l11 c11 k11
  have b11 := F11.binds (ps := ["_law_rows", "_law_rest"]) fun _ _ _ _ _ _ us hl => match us, hl with | [_, _], _ => rfl
  have F12 := fun_mk (st := s_law) l12 c12 k12
  have b12 := F12.binds (ps := ["_law_script"]) fun _ _ _ _ _ _ us hl => match us, hl with | [_], _ => rfl
  have clsGuard : Cls K cGuard := ⟨r2Guard, r3Guard, r4Guard, r5Guard⟩
  have R_Guard : GdC K cGuard := ⟨clsGuard, r_Guard_pause, r_Guard_silent, r_Guard_marks⟩
  have FD : FunD K "__init__" "LineError.__init__" (defArgs i_LineError) (defBody i_LineError) (defScope i_LineError) [.str "LineError", .str "refused"] [] fLE (PySem.W.fnOf "__init__" "LineError.__init__" (defArgs i_LineError) (defBody i_LineError) (defScope i_LineError) (.ref dLE) kVLE dcLE pmLE anLE cdLE ctLE) := ⟨⟨_, _, _, _, _, _, _, _, _, _, rfl, e7, e8, .inr ⟨by simp, dLE, _, _, _, rfl, e9, rfl, .cons ⟨_, rfl⟩ (.cons ⟨_, rfl⟩ .nil)⟩, .inl rfl⟩, e6⟩
  have bLE : Binds K (PySem.W.fnOf "__init__" "LineError.__init__" (defArgs i_LineError) (defBody i_LineError) (defScope i_LineError) (.ref dLE) kVLE dcLE pmLE anLE cdLE ctLE) ["self", "word", "text"] [] := by
    obtain ⟨ds, r, hb⟩ := FD.binds1 (ps := ["self", "word", "text"]) 3 2 (by simp) rfl (fun T kV doc pm an cdv ct us its hu hi => match us, its, hu, hi with | [_, _, _], [_, _], _, _ => ⟨_, rfl, rfl⟩)
    cases r
    exact hb
  have TL : ClsFn K mg "LineError" "__init__" cLE fLE := ⟨PySem.W.mg_of X G e1, e2, e3, e4, e5, rfl, e6⟩
  have OBadByte : OexC K xBadByte := ⟨⟨_, _, _, _, _, _, _, _, _, _, _, _, _, _, _, o1BadByte, o2BadByte⟩, o3BadByte, exBadByte, o4BadByte, o5BadByte⟩
  have FIBadByte := fun_mk (st := i_BadByte) o8BadByte o9BadByte p1BadByte
  have bIBadByte := FIBadByte.binds (ps := ["self", "at"]) fun _ _ _ _ _ _ us hl => match us, hl with | [_, _], _ => rfl
  have OBadCount : OexC K xBadCount := ⟨⟨_, _, _, _, _, _, _, _, _, _, _, _, _, _, _, o1BadCount, o2BadCount⟩, o3BadCount, exBadCount, o4BadCount, o5BadCount⟩
  have FIBadCount := fun_mk (st := i_BadCount) o8BadCount o9BadCount p1BadCount
  have bIBadCount := FIBadCount.binds (ps := ["self"]) fun _ _ _ _ _ _ us hl => match us, hl with | [_], _ => rfl
  refine ⟨PySem.W.fnOf "law" "law" (defArgs s_law) (defBody s_law) (defScope s_law) .none kV12 dc12 pm12 an12 cd12 ct12, fun s v => .of_eq rfl, fun base _ _ => ?_⟩
  have OKL := ok_i_LineError (P := l.prog) (w := w) (base := base) (mg := mg) (k := 0) FD (PySem.W.mg_none_of X G z_ValueError) e10
  have X_BadByte : XcOk l.prog w K mg base 2 "BadByte" xBadByte (spIni K xBadByte "BadByte" "at") := ⟨fIBadByte, _, _, OBadByte, o6BadByte, o7BadByte, ok_i_BadByte FIBadByte TL OKL bLE OBadByte p2BadByte noBadByte, bIBadByte, PySem.W.mg_of X G gBadByte⟩
  have X_BadCount : XcOk l.prog w K mg base 2 "BadCount" xBadCount (spIni0 K xBadCount "BadCount") := ⟨fIBadCount, _, _, OBadCount, o6BadCount, o7BadCount, ok_i_BadCount FIBadCount TL OKL bLE OBadCount p2BadCount, bIBadCount, PySem.W.mg_of X G gBadCount⟩
  have C_check_bytes : CalX l.prog w K mg base 4 "check_bytes" ["row"] (spCheckY K xBadByte) := ⟨f0, _, ok_check_bytes F0 (PySem.W.mg_none_of X G z_enumerate) (PySem.W.mg_of X G q_GREATEST_BYTE) (X_BadByte.mono (by decide)), PySem.W.mg_of X G a0, k0, b0⟩
  have O_1 : FnOk l.prog w K mg base (L2.CX l.prog w) 4 f1 _ ["self", "pause"] (spGi cGuard xBadCount) := ok_Guard___init__ F1 R_Guard (PySem.W.mg_of X G q_LONGEST_PAUSE) (X_BadCount.mono (by decide))
  have C_nw_Guard : CalNW l.prog w K mg base 4 "Guard" cGuard ["self", "pause"] ["pause"] (fun vs zs => vs ++ zs) (spGi cGuard xBadCount) := by
    obtain ⟨g, hg⟩ := kbn_app (ps := ["self", "pause"]) F1 1 ["pause"] (by intro z; cases z) fun _ _ _ _ _ _ us ws h1 h2 => match us, ws, h1, h2 with | [_], [_], _, _ => rfl
    exact ⟨f1, _, g, ⟨r6Guard, a1, i1, r7Guard⟩, O_1, PySem.W.mg_of X G r1Guard, hg⟩
  have C_Guard_beat_of_silence : CalM CX0 l.prog w K mg base 1 cGuard "beat_of_silence" ["self"] (spGs cGuard) := ⟨f2, _, clsGuard, ⟨a2, i2, k2⟩, ok_Guard_beat_of_silence F2 R_Guard (PySem.W.mg_of X G q_MARK_KEY) (PySem.W.mg_of X G q_SIGN_MARKS), b2⟩
  have C_Guard_beat : CalM (L2.CX l.prog w) l.prog w K mg base 5 cGuard "beat" ["self", "row"] (spGb K cGuard xBadByte) := ⟨f3, _, clsGuard, ⟨a3, i3, k3⟩, ok_Guard_beat F3 R_Guard (PySem.W.mg_none_of X G z_len) (PySem.W.mg_none_of X G z_list) (PySem.W.mg_of X G q_MARK_KEY) (PySem.W.mg_of X G q_SIGN_MARKS) (C_check_bytes.mono (by decide)) (C_Guard_beat_of_silence.mono (by decide)), b3⟩
  have C_Guard_held : CalM CX0 l.prog w K mg base 1 cGuard "held" ["self"] (spGh cGuard) := ⟨f4, _, clsGuard, ⟨a4, i4, k4⟩, ok_Guard_held F4 R_Guard, b4⟩
  have C__law_bag : Cal l.prog w K mg base 1 "_law_bag" ["_law_script"] (spBag K) := ⟨f5, _, ok__law_bag F5 (PySem.W.mg_none_of X G z_len) (PySem.W.mg_none_of X G z_list), PySem.W.mg_of X G a5, k5, b5⟩
  have C__law_pick : Cal l.prog w K mg base 1 "_law_pick" ["_law_bag_here", "_law_top"] (spPick) := ⟨f6, _, ok__law_pick F6 (PySem.W.mg_none_of X G z_len), PySem.W.mg_of X G a6, k6, b6⟩
  have C__law_of : Cal l.prog w K mg base 2 "_law_of" ["_law_bag_here", "_law_some"] (spOf K) := ⟨f7, _, ok__law_of F7 (PySem.W.mg_none_of X G z_len) (C__law_pick.mono (by decide)), PySem.W.mg_of X G a7, k7, b7⟩
  have C__law_same : Cal l.prog w K mg base 2 "_law_same" ["_law_found", "_law_due"] (spSame K 2) := ⟨f8, _, ok__law_same F8 (PySem.W.mg_of X G a8) b8 (PySem.W.mg_none_of X G z_len) (PySem.W.mg_none_of X G z_all) (PySem.W.mg_none_of X G z_bool) (PySem.W.mg_none_of X G z_int) (PySem.W.mg_none_of X G z_isinstance) (PySem.W.mg_none_of X G z_list) (PySem.W.mg_none_of X G z_range) (PySem.W.mg_none_of X G z_str) (PySem.W.mg_none_of X G z_tuple) 2, PySem.W.mg_of X G a8, k8, b8⟩
  have C__law_row : Cal l.prog w K mg base 2 "_law_row" ["_law_bag_here", "_law_most"] (spRow) := ⟨f9, _, ok__law_row F9 (PySem.W.mg_none_of X G z_range) (C__law_pick.mono (by decide)), PySem.W.mg_of X G a9, k9, b9⟩
  have C__law_keys : Cal l.prog w K mg base 3 "_law_keys" ["_law_bag_here"] (spKeys) := ⟨f10, _, ok__law_keys F10 (C__law_pick.mono (by decide)) (C__law_of.mono (by decide)) (C__law_row.mono (by decide)), PySem.W.mg_of X G a10, k10, b10⟩
  have C__law_signed : Cal l.prog w K mg base 1 "_law_signed" ["_law_rows", "_law_rest"] (spSigned K) := ⟨f11, _, ok__law_signed F11 (PySem.W.mg_none_of X G z_len), PySem.W.mg_of X G a11, k11, b11⟩
  exact ok_law F12 (PySem.W.mg_none_of X G z_list) (PySem.W.mg_none_of X G z_int) (PySem.W.mg_none_of X G z_range) (C_nw_Guard.mono (by decide)) (C_Guard_beat.mono (by decide)) (C_Guard_held.mono (by decide)) (C__law_bag.mono (by decide)) (C__law_pick.mono (by decide)) (C__law_same.mono (by decide)) (C__law_keys.mono (by decide)) (C__law_signed.mono (by decide))
end WB
open PySem PySem.W PyProof.Rows
set_option maxRecDepth 100000 in
set_option maxHeartbeats 0 in
theorem PySem.Challenge.cw_warbleline_k49_whole_no_key_is_lost_holds : PySem.Challenge.rw_warbleline_k49_whole_no_key_is_lost.Holds := by
  w_on; o_law; k_head; (case hw => w_witness2)
  k_fill
  refine L2.walk_of (l := PySem.Challenge.rw_warbleline_k49_whole_no_key_is_lost) (n := 63) (k := 6) (x := "_law_script") (CX := fun _ => L2.CX0) (sp := fun w => WB.spLaw _) rfl (by decide) rfl ⟨rfl, by decide, by decide⟩ (fun w h Y => PySem.W.kIn_of Y) ?F (fun _ _ a ns hl _ hS => ⟨a, ns, rfl, hS, fun _ => rfl⟩) (fun _ _ _ _ _ h => h)
  case F =>
    intro w mg fa h KX G hmg
    refine' WB.all_mk KX G hmg ?r1Guard ?r2Guard ?r3Guard ?r4Guard ?r5Guard ?r6Guard ?r7Guard ?r_Guard_pause ?r_Guard_silent ?r_Guard_marks ?a0 ?l0 ?c0 ?k0 ?a1 ?i1 ?l1 ?v1 ?c1 ?k1 ?a2 ?i2 ?l2 ?c2 ?k2 ?a3 ?i3 ?l3 ?c3 ?k3 ?a4 ?i4 ?l4 ?c4 ?k4 ?a5 ?l5 ?c5 ?k5 ?a6 ?l6 ?c6 ?k6 ?a7 ?l7 ?c7 ?k7 ?a8 ?l8 ?c8 ?k8 ?a9 ?l9 ?c9 ?k9 ?a10 ?l10 ?c10 ?k10 ?a11 ?l11 ?c11 ?k11 ?a12 ?l12 ?c12 ?k12 ?e1 ?e2 ?e3 ?e4 ?e5 ?e6 ?e7 ?e8 ?e9 ?e10 ?z_ValueError ?gBadByte ?gaBadByte ?ggBadByte ?exBadByte ?hdBadByte ?noBadByte ?gBadCount ?gaBadCount ?ggBadCount ?exBadCount ?hdBadCount ?o1BadByte ?o2BadByte ?o3BadByte ?o4BadByte ?o5BadByte ?o6BadByte ?o7BadByte ?o8BadByte ?o9BadByte ?p1BadByte ?p2BadByte ?o1BadCount ?o2BadCount ?o3BadCount ?o4BadCount ?o5BadCount ?o6BadCount ?o7BadCount ?o8BadCount ?o9BadCount ?p1BadCount ?p2BadCount ?z_enumerate ?z_len ?z_list ?z_all ?z_bool ?z_int ?z_isinstance ?z_range ?z_str ?z_tuple ?q_GREATEST_BYTE ?q_PAUSE ?q_MARK_KEY ?q_SIGN_MARKS ?q_LONGEST_PAUSE
    (case r1Guard => k_is)
    (case r2Guard => k_is)
    (case r3Guard => k_is)
    (case r4Guard => k_is)
    (case r5Guard => k_is)
    (case r6Guard => k_is)
    (case r7Guard => k_is)
    (case r_Guard_pause => k_is)
    (case r_Guard_silent => k_is)
    (case r_Guard_marks => k_is)
    (case a0 => k_is)
    (case l0 => k_is)
    (case c0 => k_is)
    (case k0 => k_is)
    (case a1 => k_is)
    (case i1 => k_is)
    (case l1 => k_is)
    (case v1 => k_is)
    (case c1 => k_is)
    (case k1 => k_is)
    (case a2 => k_is)
    (case i2 => k_is)
    (case l2 => k_is)
    (case c2 => k_is)
    (case k2 => k_is)
    (case a3 => k_is)
    (case i3 => k_is)
    (case l3 => k_is)
    (case c3 => k_is)
    (case k3 => k_is)
    (case a4 => k_is)
    (case i4 => k_is)
    (case l4 => k_is)
    (case c4 => k_is)
    (case k4 => k_is)
    (case a5 => k_is)
    (case l5 => k_is)
    (case c5 => k_is)
    (case k5 => k_is)
    (case a6 => k_is)
    (case l6 => k_is)
    (case c6 => k_is)
    (case k6 => k_is)
    (case a7 => k_is)
    (case l7 => k_is)
    (case c7 => k_is)
    (case k7 => k_is)
    (case a8 => k_is)
    (case l8 => k_is)
    (case c8 => k_is)
    (case k8 => k_is)
    (case a9 => k_is)
    (case l9 => k_is)
    (case c9 => k_is)
    (case k9 => k_is)
    (case a10 => k_is)
    (case l10 => k_is)
    (case c10 => k_is)
    (case k10 => k_is)
    (case a11 => k_is)
    (case l11 => k_is)
    (case c11 => k_is)
    (case k11 => k_is)
    (case a12 => k_is)
    (case l12 => k_is)
    (case c12 => k_is)
    (case k12 => k_is)
    (case e1 => k_is)
    (case e2 => k_is)
    (case e3 => k_is)
    (case e4 => k_is)
    (case e5 => k_is)
    (case e6 => k_is)
    (case e7 => k_is)
    (case e8 => k_is)
    (case e9 => k_is)
    (case e10 => k_is)
    (case z_ValueError => k_is)
    (case gBadByte => k_is)
    (case gaBadByte => k_is)
    (case ggBadByte => k_is)
    (case exBadByte => k_is)
    (case hdBadByte => k_is)
    (case noBadByte => k_is)
    (case gBadCount => k_is)
    (case gaBadCount => k_is)
    (case ggBadCount => k_is)
    (case exBadCount => k_is)
    (case hdBadCount => k_is)
    (case o1BadByte => k_is)
    (case o2BadByte => decide +kernel)
    (case o3BadByte => k_is)
    (case o4BadByte => k_is)
    (case o5BadByte => k_is)
    (case o6BadByte => k_is)
    (case o7BadByte => k_is)
    (case o8BadByte => k_is)
    (case o9BadByte => k_is)
    (case p1BadByte => k_is)
    (case p2BadByte => k_is)
    (case o1BadCount => k_is)
    (case o2BadCount => decide +kernel)
    (case o3BadCount => k_is)
    (case o4BadCount => k_is)
    (case o5BadCount => k_is)
    (case o6BadCount => k_is)
    (case o7BadCount => k_is)
    (case o8BadCount => k_is)
    (case o9BadCount => k_is)
    (case p1BadCount => k_is)
    (case p2BadCount => k_is)
    (case z_enumerate => k_is)
    (case z_len => k_is)
    (case z_list => k_is)
    (case z_all => k_is)
    (case z_bool => k_is)
    (case z_int => k_is)
    (case z_isinstance => k_is)
    (case z_range => k_is)
    (case z_str => k_is)
    (case z_tuple => k_is)
    (case q_GREATEST_BYTE => k_is)
    (case q_PAUSE => k_is)
    (case q_MARK_KEY => k_is)
    (case q_SIGN_MARKS => k_is)
    (case q_LONGEST_PAUSE => k_is)
