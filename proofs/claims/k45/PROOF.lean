import PyProof.Rows.All
import Wide.All
import OpenK.AllK
import Wide.FinOn
import HandS.Base
import HandS.Call
import HandS.List
import HandS.Comp
import HandS.Ends
import HandS.Iter
import HandS.Text
import HandS.Words
import HandS.WordsList
import HandS.IsInst
import HandS.More
import HandS.Wide
import HandS.Style
import HandS.EndBits
import HandS.Exc
import HandS.ExcOwn
import HandS.ExcInit
import HandS.ExcField
import HandS.TryOnly
import HandS.WordsExc
import HandS.FStr
import HandS.Defaults
import HandS.Lambda
import HandS.EndTab
import HandS.Dict
import HandS.Conv
import HandS.Zip
import HandS.MakeKwOnly
import HandS.Deep
import KE.DatumOrd
import HandS.Rev
import PyProof.Rows.RowBridgeK
import HandS.SetFor
import HandS.Walk
import HandS.TupAny
import KE.GoesZip
import KE.GoesMore
import KE.GoesEnum
import HandS.SlotsOwn
import HandS.DictSub
import PyProof.Conv_bool
import KE.KDictZip
import KE.KDictItemsList
import PyProof.Rows.SortShellAny
import HandS.EndOwn
import HandS.EndOwn
import PySem.Challenge.RW_warbleline_k45_whole_links_over_loss
set_option Elab.async false
set_option linter.all false
set_option maxRecDepth 100000
set_option maxHeartbeats 2000000
namespace WB
open PySem PySem.Spec PyProof.Rows L2
/-! ### a def that may be called by its name, letting nothing out -/
def Cal (P : Program) (w : World) (K : PySem.W.Frag) (mg : Str → Option Value) (base : Heap) (k : Nat) (nm : Str) (ps : List Str) (sp : Sp) : Prop :=
  ∃ (f : Addr) (fd : FuncData), FnOk P w K mg base CX0 k f fd ps sp ∧ mg nm = some (.ref f) ∧ PySem.W.keepIn K (.ref f) = true ∧ Binds K fd ps []
theorem Cal.mono {P : Program} {w : World} {K : PySem.W.Frag} {mg : Str → Option Value} {base : Heap} {j k : Nat} {nm : Str} {ps : List Str} {sp : Sp} (c : Cal P w K mg base j nm ps sp) (h : j ≤ k) : Cal P w K mg base k nm ps sp := by
  obtain ⟨f, fd, a, b, d, e⟩ := c
  exact ⟨f, fd, a.mono h, b, d, e⟩
section
variable {X : Cx} {k : Nat} {nm : Str} {ps : List Str} {sp : Sp} {e : Expr} {es : List Expr} {t : TA} {p pos : Pos}
theorem pe_callC (c : Cal X.prog X.w X.K X.mg X.base k nm ps sp) (hr : Room k X.A) (hg : Gl X nm) (ha : PA X (e :: es) t) (hdb : (nm == ("__debug__" : Str)) = false := by decide)
    (he : starEach (e :: es) X.env = (false, eval e X.env) :: starEach es X.env := by rfl) (hpl : (backTo pos (starEach es X.env)).any (·.1) = false := by rfl) :
    PE X (.Call (.Name nm p) (e :: es) [] pos) (tCall sp [] E0 t) := by
  obtain ⟨f, fd, a, b, d, g⟩ := c
  exact pe_call a hr hg b d g .nil pass0 ha hdb he hpl
theorem pe_callC0 (c : Cal X.prog X.w X.K X.mg X.base k nm ps sp) (hr : Room k X.A) (hg : Gl X nm) (hdb : (nm == ("__debug__" : Str)) = false := by decide) :
    PE X (.Call (.Name nm p) [] [] pos) (tCall sp [] E0 tNil) := by
  obtain ⟨f, fd, a, b, d, g⟩ := c
  exact pe_call0 a hr hg b d g .nil pass0 hdb
end
/-! ### rules with the written part by its name (a comprehension's block has the same one) -/
section
variable {X : Cx} (K : PySem.W.Frag)
theorem ix_listK (h : X.K = K) : IxR X (rIxL K) := by subst h; exact ix_list
theorem ix_tupK (h : X.K = K) : IxR X (rIxT K) := by subst h; exact ix_tup
theorem ix_seqK (h : X.K = K) : IxR X (rIx K) := by subst h; exact ix_seq
def rLenK (K : PySem.W.Frag) : List V → Hp → VK → Prop := fun xs H Q => ∃ p ys, xs = [.ref p] ∧ (SqL K H p ys ∨ SqT K H p ys) ∧ Q (.int ys.length) H
theorem call_lenK (h : X.K = K) : CallR X (.builtin "len") (rLenK K) := by subst h; exact call_len_seq
def rListK (K : PySem.W.Frag) : List V → Hp → VK → Prop := fun xs H Q => ∃ p ys, xs = [.ref p] ∧ (SqL K H p ys ∨ SqT K H p ys) ∧ ∀ l, H l = none → Q (.ref l) (upd H l (.lst ys))
theorem call_listK (h : X.K = K) : CallR X (.type "list") (rListK K) := by subst h; exact call_list_of
theorem call_isiK1 (h : X.K = K) : CallR X (.builtin "isinstance") (rIsi K) := by subst h; exact call_isi
theorem call_isiTK (h : X.K = K) : CallR X (.builtin "isinstance") (rIsiT K) := by subst h; exact call_isiT
theorem op_inK (h : X.K = K) : OpR X (compareOp .In) (rIn K false) := by subst h; exact op_in_seq
theorem op_notInK (h : X.K = K) : OpR X (compareOp .NotIn) (rIn K true) := by subst h; exact op_notIn_seq
theorem op_eqDK (h : X.K = K) (hu : X.A.units + 64 < cLine) : OpR X (compareOp .Eq) (rEqD K) := by subst h; exact op_eqD hu
theorem op_neDK (h : X.K = K) (hu : X.A.units + 64 < cLine) : OpR X (compareOp .NotEq) (rNeD K) := by subst h; exact op_neD hu
theorem sl_listK (h : X.K = K) : SlR X (rSlL K) := by subst h; exact sl_list
theorem cr_allK (h : X.K = K) (hc : X.calm = true) : CallR X (.builtin "all") (rAll K) := by subst h; exact cr_all hc
variable {o e : Expr} {es : List Expr} {to : TE} {t : TA} {name : Str} {apos cpos : Pos} {T id : String} {r : V → List V → Hp → VK → Prop}
theorem pe_bm0K (h : X.K = K) (pa : PlainAttrs T) (slot : Slot T name id) (hty : typeOf (.builtin id) = pure (.type "method_descriptor")) (hm : MtR X id r) (ho : PE X o to)
    (hbase : attributeBase o name X.env (eval o X.env) = eval o X.env := by rfl) (hline : (apos.endLine == cpos.line) = true := by rfl) : PE X (.Call (.Attribute o name apos) [] [] cpos) (tBM0 K T r to) := by
  subst h; exact pe_bm0 pa slot hty hm ho hbase hline
theorem pe_bmK (h : X.K = K) (pa : PlainAttrs T) (slot : Slot T name id) (hty : typeOf (.builtin id) = pure (.type "method_descriptor")) (hm : MtR X id r) (ho : PE X o to) (ha : PA X (e :: es) t)
    (hbase : attributeBase o name X.env (eval o X.env) = eval o X.env := by rfl)
    (hfew : ((backTo cpos (starEach (e :: es) X.env)).all (fun x => !x.1) && (backToKw cpos (keywordEach [] X.env)).all (fun x => x.1.isSome)
      && decide ((e :: es).length + ([] : List Keyword).length + (if ([] : List Keyword).isEmpty then 0 else 1) < 30)) = true := by rfl)
    (hline : (apos.endLine == cpos.line) = true := by rfl) (hs : starEach (e :: es) X.env = (false, eval e X.env) :: starEach es X.env := by rfl) (hplain : (backTo cpos (starEach es X.env)).any (·.1) = false := by rfl) :
    PE X (.Call (.Attribute o name apos) (e :: es) [] cpos) (tBM K T r to t) := by
  subst h; exact pe_bm pa slot hty hm ho ha hbase hfew hline hs hplain
variable {tg l : Expr} {tl : TE}
theorem pi_listK (h : X.K = K) (hl : PE X l tl) : PI X tg l (iList K tl) := by subst h; exact pi_list hl
theorem pi_tupK (h : X.K = K) (hl : PE X l tl) : PI X tg l (iTup K tl) := by subst h; exact pi_tup hl
end
/-- behind a statement: what its ways have in common -/
theorem seq_by {t u : TS} {D : Ends} {σ : L2.St} {H : Hp} (J : L2.St → Hp → Prop) (h2 : ∀ σ1 H1, J σ1 H1 → u D σ1 H1) (h1 : (∀ σ1 H1, J σ1 H1 → u D σ1 H1) → t { D with nx := u D } σ H) : tSeq t u D σ H := h1 h2
theorem if_by {c : TT} {t1 t2 u : TS} {D : Ends} {σ : L2.St} {H : Hp} (J : L2.St → Hp → Prop) (h2 : ∀ σ1 H1, J σ1 H1 → u D σ1 H1) (h1 : (∀ σ1 H1, J σ1 H1 → u D σ1 H1) → tIfS c t1 t2 { D with nx := u D } σ H) : tSeq (tIfS c t1 t2) u D σ H := h1 h2
theorem asg_by {te : TE} {i : Nat} {u : TS} {D : Ends} {σ : L2.St} {H : Hp} (J : V → Hp → Prop) (h2 : ∀ v H1, J v H1 → u D (σ.set i (some v)) H1) (h1 : (∀ v H1, J v H1 → u D (σ.set i (some v)) H1) → te σ H (fun x H1 => gName i x σ H1 (u D))) : tSeq (tAsg te (gName i)) u D σ H := h1 h2
theorem name_by {i : Nat} {v : V} {σ : L2.St} {H : Hp} {Q : L2.St → Hp → Prop} (h : Q (σ.set i (some v)) H) : gName i v σ H Q := h
/-! ### heaps -/
theorem same_upd {H : Hp} {p : Addr} {o : HO} (h : H p = none) : Same H (upd H p o) := fun b x e => by
  rw [upd_ne (ne_of_none e h)]
  exact e
/-- an object that was not there ahead may change -/
theorem same_mut {H H' : Hp} {p : Addr} {o : HO} (e : Same H H') (h : H p = none) : Same H (upd H' p o) := fun b x q => by
  rw [upd_ne (ne_of_none q h)]
  exact e b x q
/-- all but what stands at b stays -/
def Mv (b : Addr) (H H' : Hp) : Prop := ∀ a o, a ≠ b → H a = some o → H' a = some o
theorem Mv.refl (b : Addr) (H : Hp) : Mv b H H := fun _ _ _ h => h
theorem Mv.trans {b : Addr} {H H1 H2 : Hp} (x : Mv b H H1) (y : Mv b H1 H2) : Mv b H H2 := fun a o n h => y a o n (x a o n h)
theorem Mv.of {b : Addr} {H H' : Hp} (s : Same H H') : Mv b H H' := fun a o _ h => s a o h
theorem Mv.upd {b : Addr} {H H' : Hp} {o : HO} (x : Mv b H H') : Mv b H (upd H' b o) := fun a u n h => by
  rw [upd_ne n]
  exact x a u n h
theorem Mv.none {b p : Addr} {H H' : Hp} (x : Mv b H H') (n : p ≠ b) (h : H' p = none) : H p = none := by
  cases q : H p with
  | none => rfl
  | some o =>
    rw [x p o n q] at h
    cases h
/-! ### the bag: b.1 the bag, b.2 its numbers -/
def bagL (s : Addr) (i r x c : Int) : List V := [.ref s, .int i, .int r, .int x, .int c]
def Bag (b : Addr × Addr) (H : Hp) : Prop := ∃ (ns : List Int) (i r x c : Int), H b.1 = some (.lst (bagL b.2 i r x c)) ∧ H b.2 = some (.lst (ns.map V.int)) ∧ b.2 ≠ b.1 ∧ 0 ≤ i ∧ 0 ≤ x ∧ x < 2147483648
theorem Bag.same {b : Addr × Addr} {H H' : Hp} (g : Bag b H) (s : Same H H') : Bag b H' := by
  obtain ⟨ns, i, r, x, c, h1, h2, h3, h4, h5, h6⟩ := g
  exact ⟨ns, i, r, x, c, s _ _ h1, s _ _ h2, h3, h4, h5, h6⟩
theorem Bag.ne {b : Addr × Addr} {p : Addr} {H : Hp} (g : Bag b H) (h : H p = none) : p ≠ b.1 := by
  obtain ⟨ns, i, r, x, c, h1, _⟩ := g
  exact fun z => by rw [z, h1] at h; cases h
theorem Bag.ne2 {b : Addr × Addr} {p : Addr} {H : Hp} (g : Bag b H) (h : H p = none) : p ≠ b.2 := by
  obtain ⟨ns, i, r, x, c, _, h1, _⟩ := g
  exact fun z => by rw [z, h1] at h; cases h
theorem Bag.upd {b : Addr × Addr} {p : Addr} {o : HO} {H : Hp} (g : Bag b H) (h1 : p ≠ b.1) (h2 : p ≠ b.2) : Bag b (L2.upd H p o) := by
  obtain ⟨ns, i, r, x, c, e1, e2, h3⟩ := g
  exact ⟨ns, i, r, x, c, by rw [upd_ne h1.symm]; exact e1, by rw [upd_ne h2.symm]; exact e2, h3⟩
/-- a draw: its bag, its bound -/
def spPick : Sp := fun vs H Q _ => ∃ (b : Addr × Addr) (top : Int), vs = [.ref b.1, .int top] ∧ Bag b H ∧ 0 < top ∧ top < 1073741824 ∧ ∀ (H' : Hp) (d : Int), Mv b.1 H H' → Bag b H' → 0 ≤ d → d < top → Q (.int d) H'
/-- the bag of a script -/
def spBag (K : PySem.W.Frag) : Sp := fun vs H Q _ => ∃ (a : Addr) (ns : List Int), vs = [.ref a] ∧ SqL K H a (ns.map V.int) ∧ ∀ (H' : Hp) (b : Addr × Addr), Same H H' → H b.1 = none → Bag b H' → Q (.ref b.1) H'
/-- one of the list's things -/
def spOf (K : PySem.W.Frag) : Sp := fun vs H Q _ => ∃ (b : Addr × Addr) (l : Addr) (xs : List V), vs = [.ref b.1, .ref l] ∧ Bag b H ∧ l ≠ b.1 ∧ H l = some (.lst xs) ∧ 0 < xs.length ∧ xs.length < 1000 ∧ ∀ (H' : Hp) (v : V), Mv b.1 H H' → Bag b H' → v ∈ xs → Q v H'
section
variable {K : PySem.W.Frag}
def tyN : PyData → String
  | .none => "NoneType"
  | .bool _ => "bool"
  | .int _ => "int"
  | .str _ => "str"
  | .list _ => "list"
  | .tuple _ => "tuple"
  | .dict _ => "dict"
theorem ty_dp {H : Hp} {x : V} {d : PyData} (h : Dp K H x d) : TyX K H x (.type (tyN d)) := by
  cases h with
  | non => exact .base .non
  | bl b => exact .base (.bl b)
  | int i => exact .base (.int i)
  | str x => exact .base (.str x)
  | lst hs _ =>
    rcases hs with (h | ⟨o, h⟩) | ⟨o, its, n, h1, h2, _⟩
    · exact .base (.lst h)
    · exact .base (.frz h)
    · exact .kList h1 h2
  | tup hs _ =>
    rcases hs with (h | ⟨o, h⟩) | ⟨o, its, n, h1, h2, _⟩
    · exact .base (.tup h)
    · exact .fTuple h
    · exact .kTuple h1 h2
theorem same_t {H H' : Hp} {a : Addr} {xs : List V} (e : Same H H') (h : SqT K H a xs) : SqT K H' a xs := by
  rcases h with (h | ⟨o, h⟩) | h
  · exact .inl (.inl (e _ _ h))
  · exact .inl (.inr ⟨o, e _ _ h⟩)
  · exact .inr h
mutual
theorem dp_same {H H' : Hp} (e : Same H H') : ∀ {d : PyData} {x : V}, Dp K H x d → Dp K H' x d
  | _, _, .non => .non
  | _, _, .bl b => .bl b
  | _, _, .int i => .int i
  | _, _, .str s => .str s
  | _, _, .lst hs ha => .lst (e.seq hs) (dpa_same e ha)
  | _, _, .tup hs ha => .tup (same_t e hs) (dpa_same e ha)
theorem dpa_same {H H' : Hp} (e : Same H H') : ∀ {ds : List PyData} {xs : List V}, DpAll K H xs ds → DpAll K H' xs ds
  | _, _, .nil => .nil
  | _, _, .cons h t => .cons (dp_same e h) (dpa_same e t)
end
theorem dpa_len {H : Hp} : ∀ {xs : List V} {ds : List PyData}, DpAll K H xs ds → xs.length = ds.length
  | _, _, .nil => rfl
  | _, _, .cons _ t => congrArg (· + 1) (dpa_len t)
theorem dpa_get {H : Hp} : ∀ {xs : List V} {ds : List PyData} {i : Nat} {d : PyData}, DpAll K H xs ds → ds[i]? = some d → ∃ x, xs[i]? = some x ∧ Dp K H x d
  | _, _, _, _, .nil, e => by simp at e
  | _, _, 0, _, .cons h _, e => by simp at e; subst e; exact ⟨_, rfl, h⟩
  | _, _, i + 1, d, .cons _ t, e => by
    obtain ⟨x, h1, h2⟩ := dpa_get (i := i) (d := d) t (by simpa using e)
    exact ⟨x, by simpa using h1, h2⟩
/-- data of at most so many levels -/
def Dn : Nat → PyData → Prop
  | 0, _ => False
  | n + 1, d => (∃ b, d = .bool b) ∨ (∃ i, d = .int i) ∨ (∃ s, d = .str s) ∨ d = .none ∨ ∃ ds, (d = .list ds ∨ d = .tuple ds) ∧ ds.length ≤ 100000 ∧ ∀ e ∈ ds, Dn n e
def spSame (K : PySem.W.Frag) (n : Nat) : Sp := fun vs H Q _ => ∃ (x y : V) (d : PyData), vs = [x, y] ∧ Dp K H x d ∧ Dp K H y d ∧ Dn n d ∧ SeqAt.shaped d = true ∧ ∀ H', Same H H' → Q (.bl true) H'
theorem tYes_by {σ : L2.St} {H : Hp} {Q : Bool → Hp → Prop} (h : Q true H) : tYes σ H Q := h
theorem canLay_mem : ∀ {ds : List PyData} {e : PyData}, e ∈ ds → PyData.canLayAll0 ds = true → PyData.canLay0 e = true
  | d :: ds, e, hm, h => by
    have h : (PyData.canLay0 d && PyData.canLayAll0 ds) = true := h
    rw [Bool.and_eq_true] at h
    rcases List.mem_cons.mp hm with rfl | hm
    · exact h.1
    · exact canLay_mem hm h.2
theorem depth_mem : ∀ {ds : List PyData} {e : PyData}, e ∈ ds → PyData.depth e ≤ PyData.depthAll ds
  | d :: ds, e, hm => by
    show _ ≤ max (PyData.depth d) (PyData.depthAll ds)
    rcases List.mem_cons.mp hm with rfl | hm
    · exact Nat.le_max_left _ _
    · exact Nat.le_trans (depth_mem hm) (Nat.le_max_right _ _)
theorem shaped_mem {ds : List PyData} {e : PyData} (hm : e ∈ ds) (h : SeqAt.shaped (.list ds) = true ∨ SeqAt.shaped (.tuple ds) = true) : SeqAt.shaped e = true := by
  have k : PyData.canLayAll0 ds = true ∧ PyData.depthAll ds + 1 ≤ 64 := by
    rcases h with h | h
    · exact ⟨SeqAt.canLay_of_shaped h, SeqAt.depth_of_shaped h⟩
    · exact ⟨SeqAt.canLay_of_shaped h, SeqAt.depth_of_shaped h⟩
  unfold SeqAt.shaped
  rw [Bool.and_eq_true]
  exact ⟨canLay_mem hm k.1, decide_eq_true (by have := depth_mem hm; omega)⟩
theorem ifT {A B : Prop} {b : Bool} (e : b = true) (h : A) : if b = true then A else B := by rw [if_pos e]; exact h
theorem ifF {A B : Prop} {b : Bool} (e : b = false) (h : B) : if b = true then A else B := by rw [e]; exact iteF h
end
end WB
namespace WB
open PySem PySem.Spec PyProof.Rows L2
section
variable {K : PySem.W.Frag}
theorem for_enumK {a : Addr} {xs : List V} {g : TG} {tb : TS} {D : Ends} {σ : L2.St} {H : Hp} (Pv : Nat → L2.St → Hp → Prop) (h0 : Pv 0 σ H) (hl : ∀ i σ H, i ≤ xs.length → Pv i σ H → SqL K H a xs)
    (hs : ∀ i x T σ H, xs[i]? = some x → Pv i σ H → H T = none → g (.ref T) σ (upd H T (.tup [.int (i : Nat), x])) fun σ2 H2 => tb { D with nx := Pv (i + 1), ct := Pv (i + 1), bk := D.nx } σ2 H2) (hd : ∀ σ H, Pv xs.length σ H → D.nx σ H) :
    ∃ W : Nat → Nat → L2.St → Hp → Prop, (∃ m, W 0 m σ H) ∧ ∀ i m σ H, W i m σ H →
      ((Ite K a).stop i H ∧ D.nx σ H) ∨ ((Ite K a).go i H ∧ ∃ N : L2.St → Hp → Prop, (∀ σ' H', N σ' H' → ∃ m', m' < m ∧ W (i + 1) m' σ' H') ∧ ∀ x H', (Ite K a).yld i H x H' → g x σ H' fun σ2 H2 => tb { D with nx := N, ct := N, bk := D.nx } σ2 H2) := by
  refine ⟨fun i m σ H => m = xs.length - i ∧ i ≤ xs.length ∧ Pv i σ H, ⟨xs.length, by simp, Nat.zero_le _, h0⟩, ?_⟩
  rintro i m σ H ⟨rfl, hi, p⟩
  have q := hl i σ H hi p
  by_cases hlt : i < xs.length
  · refine .inr ⟨⟨xs, xs[i], q, by simp [hlt]⟩, Pv (i + 1), fun σ' H' p' => ⟨xs.length - (i + 1), by omega, rfl, hlt, p'⟩, fun x H' y => ?_⟩
    obtain ⟨T, z, rfl, nT, rfl, y⟩ := y
    exact hs i z T σ H (y xs q) p nT
  · have e : i = xs.length := by omega
    subst e
    exact .inl ⟨⟨xs, q, Nat.le_refl _⟩, hd σ H p⟩
end
/-! ### bits, numbers in bits, seals: the mathematics -/
def Bits (ns : List Int) : Prop := ∀ z ∈ ns, z = 0 ∨ z = 1
/-- a number in so many bits, the one of greatest worth first -/
def wr : Nat → Int → List Int
  | 0, _ => []
  | i + 1, n => ((n / 2 ^ i) % 2) :: wr i n
theorem wr_len : ∀ (i : Nat) (n : Int), (wr i n).length = i
  | 0, _ => rfl
  | i + 1, n => congrArg (· + 1) (wr_len i n)
theorem wr_bits : ∀ (i : Nat) (n : Int), Bits (wr i n)
  | 0, _ => fun z h => nomatch h
  | i + 1, n => fun z h => by
    rcases List.mem_cons.mp h with rfl | h
    · omega
    · exact wr_bits i n z h
theorem half (n : Int) (i : Nat) : n / 2 ^ i / 2 = n / 2 ^ (i + 1) := by
  rw [Int.pow_succ, Int.ediv_ediv_of_nonneg (by exact Int.pow_nonneg (by decide))]
/-- the register: one more bit -/
def stepR (c : Nat) (b : Int) : Nat := if ((c / 32768 : Nat) : Int) = b then c * 2 % 65536 else (c * 2 % 65536) ^^^ 4129
theorem stepR_lt (c : Nat) (b : Int) : stepR c b < 65536 := by
  unfold stepR
  have h : c * 2 % 65536 < 65536 := Nat.mod_lt _ (by decide)
  split
  · exact h
  · exact Nat.xor_lt_two_pow (n := 16) h (by decide)
def regs (bs : List Int) : Nat := bs.foldl stepR 65535
theorem regs_lt (bs : List Int) : regs bs < 65536 := by
  have : ∀ (l : List Int) (c : Nat), c < 65536 → l.foldl stepR c < 65536 := by
    intro l
    induction l with
    | nil => exact fun c h => h
    | cons b r ih => exact fun c _ => ih _ (stepR_lt c b)
  exact this bs 65535 (by decide)
def sealL (bs : List Int) : List Int := wr 16 (regs bs : Nat)
theorem take_more {α : Type} {l : List α} {i : Nat} {x : α} (h : l[i]? = some x) : l.take (i + 1) = l.take i ++ [x] := by
  rw [List.take_add_one, h]
  rfl
theorem regs_more {bs : List Int} {i : Nat} {b : Int} (h : bs[i]? = some b) : regs (bs.take (i + 1)) = stepR (regs (bs.take i)) b := by
  unfold regs
  rw [take_more h, List.foldl_append]
  rfl
theorem wr_at (c : Nat) (i : Nat) : ((c : Int) / 2 ^ i) % 2 = if c.testBit i then 1 else 0 := by
  have e : ((c : Int) / 2 ^ i) % 2 = ((c / 2 ^ i % 2 : Nat) : Int) := by
    rw [Int.natCast_emod, Int.natCast_ediv, Int.natCast_pow]
    rfl
  rw [e, Nat.testBit_eq_decide_div_mod_eq]
  have h : c / 2 ^ i % 2 < 2 := Nat.mod_lt _ (by decide)
  by_cases h1 : c / 2 ^ i % 2 = 1
  · rw [h1]; rfl
  · have h0 : c / 2 ^ i % 2 = 0 := by omega
    rw [h0]; rfl
def holdsB (ns : List Int) : Bool := decide (16 ≤ ns.length) && decide (sealL (ns.take (ns.length - 16)) = ns.drop (ns.length - 16))
theorem wr_shift (c : Nat) : wr 16 ((c * 2 % 65536 : Nat) : Int) = (wr 16 (c : Int)).drop 1 ++ [0] := by
  have e : ((c * 2 % 65536 : Nat) : Int) = (c : Int) * 2 % 65536 := by rw [Int.natCast_emod, Int.natCast_mul]; rfl
  rw [e]
  generalize (c : Int) = z
  simp only [wr, List.drop, List.cons_append, List.nil_append, List.cons.injEq, and_true]
  refine ⟨?_, ?_, ?_, ?_, ?_, ?_, ?_, ?_, ?_, ?_, ?_, ?_, ?_, ?_, ?_, ?_⟩ <;> omega
def fl (M : List Int) (k : Nat) : List Int := M.set k (1 - M.getD k 0)
theorem wr_flip (a : Nat) : wr 16 ((a ^^^ 4129 : Nat) : Int) = fl (fl (fl (wr 16 (a : Int)) 3) 10) 15 := by
  simp only [wr, wr_at, Nat.testBit_xor, fl]
  simp only [List.set, List.getD, List.getElem?_cons_succ, List.getElem?_cons_zero, Option.getD]
  have h : ∀ i : Nat, (if ((a.testBit i) ^^ true) = true then (1 : Int) else 0) = 1 - (if a.testBit i = true then 1 else 0) := by
    intro i
    cases a.testBit i <;> rfl
  have t0 : (4129 : Nat).testBit 0 = true := by decide
  have t5 : (4129 : Nat).testBit 5 = true := by decide
  have t12 : (4129 : Nat).testBit 12 = true := by decide
  have n1 : (4129 : Nat).testBit 1 = false := by decide
  have n2 : (4129 : Nat).testBit 2 = false := by decide
  have n3 : (4129 : Nat).testBit 3 = false := by decide
  have n4 : (4129 : Nat).testBit 4 = false := by decide
  have n6 : (4129 : Nat).testBit 6 = false := by decide
  have n7 : (4129 : Nat).testBit 7 = false := by decide
  have n8 : (4129 : Nat).testBit 8 = false := by decide
  have n9 : (4129 : Nat).testBit 9 = false := by decide
  have n10 : (4129 : Nat).testBit 10 = false := by decide
  have n11 : (4129 : Nat).testBit 11 = false := by decide
  have n13 : (4129 : Nat).testBit 13 = false := by decide
  have n14 : (4129 : Nat).testBit 14 = false := by decide
  have n15 : (4129 : Nat).testBit 15 = false := by decide
  simp only [t0, t5, t12, n1, n2, n3, n4, n6, n7, n8, n9, n10, n11, n13, n14, n15, Bool.xor_false, h]
/-- data of ints -/
def dI (ns : List Int) : PyData := .list (ns.map PyData.int)
theorem dpa_ints {K : PySem.W.Frag} {H : Hp} : ∀ ns : List Int, DpAll K H (ns.map V.int) (ns.map PyData.int)
  | [] => .nil
  | n :: r => .cons (.int n) (dpa_ints r)
theorem dp_ints {K : PySem.W.Frag} {H : Hp} {a : Addr} {ns : List Int} (h : SqL K H a (ns.map V.int)) : Dp K H (.ref a) (dI ns) := .lst h (dpa_ints ns)
theorem depth_ints : ∀ ns : List Int, PyData.depthAll (ns.map PyData.int) = 0
  | [] => rfl
  | n :: r => by
    show max 0 (PyData.depthAll (r.map PyData.int)) = 0
    rw [depth_ints r]
    rfl
theorem canLay_ints : ∀ ns : List Int, PyData.canLayAll0 (ns.map PyData.int) = true
  | [] => rfl
  | n :: r => by
    show (true && PyData.canLayAll0 (r.map PyData.int)) = true
    rw [canLay_ints r]
    rfl
theorem shaped_ints (ns : List Int) : SeqAt.shaped (dI ns) = true := by
  unfold SeqAt.shaped
  rw [Bool.and_eq_true]
  refine ⟨canLay_ints ns, decide_eq_true ?_⟩
  show PyData.depthAll (ns.map PyData.int) + 1 ≤ 64
  rw [depth_ints]
  decide
theorem eqv_ints (ns ms : List Int) : PyData.eqv (dI ns) (dI ms) = decide (ns = ms) := by
  have : ∀ (ns ms : List Int), PyData.eqvAll (ns.map PyData.int) (ms.map PyData.int) = decide (ns = ms) := by
    intro ns
    induction ns with
    | nil =>
      intro ms
      cases ms with
      | nil => rfl
      | cons m r => rfl
    | cons n r ih =>
      intro ms
      cases ms with
      | nil => rfl
      | cons m t =>
        show (PyData.eqv (.int n) (.int m) && PyData.eqvAll (r.map PyData.int) (t.map PyData.int)) = _
        rw [ih t]
        show ((n == m) && decide (r = t)) = _
        rw [show (n == m) = decide (n = m) from by rw [Bool.beq_eq_decide_eq], ← Bool.decide_and]
        exact decide_eq_decide.mpr ⟨fun h => by rw [h.1, h.2], fun h => List.cons.inj h⟩
  exact this ns ms
/-! ### what a law knows of the heap: the bag at b, and these -/
structure SH (b : Addr × Addr) (H : Hp) (L : List (Addr × HO)) : Prop where
  bag : Bag b H
  nb : ∀ p ∈ L, p.1 ≠ b.1 ∧ p.1 ≠ b.2
  kn : ∀ p ∈ L, H p.1 = some p.2
section
variable {b : Addr × Addr} {p : Addr} {H H' : Hp} {L L' : List (Addr × HO)} {o o' : HO}
theorem SH.same (h : SH b H L) (s : Same H H') : SH b H' L := ⟨h.bag.same s, h.nb, fun q hq => s _ _ (h.kn q hq)⟩
theorem SH.mv (h : SH b H L) (m : Mv b.1 H H') (g : Bag b H') : SH b H' L := ⟨g, h.nb, fun q hq => m _ _ (h.nb q hq).1 (h.kn q hq)⟩
theorem SH.add (h : SH b H L) (n : p ≠ b.1) (n2 : p ≠ b.2) (e : H p = some o) : SH b H ((p, o) :: L) :=
  ⟨h.bag, fun q hq => (List.mem_cons.mp hq).elim (fun z => by rw [z]; exact ⟨n, n2⟩) (h.nb q), fun q hq => (List.mem_cons.mp hq).elim (fun z => by rw [z]; exact e) (h.kn q)⟩
theorem SH.new (h : SH b H L) (n : H p = none) : SH b (upd H p o) ((p, o) :: L) := (h.same (same_upd n)).add (h.bag.ne n) (h.bag.ne2 n) upd_same
theorem SH.newS (h : SH b H L) (s : Same H H') (n : H p = none) (e : H' p = some o) : SH b H' ((p, o) :: L) := (h.same s).add (h.bag.ne n) (h.bag.ne2 n) e
theorem SH.newM (h : SH b H L) (m : Mv b.1 H H') (g : Bag b H') (n : H p = none) (e : H' p = some o) : SH b H' ((p, o) :: L) := (h.mv m g).add (h.bag.ne n) (h.bag.ne2 n) e
theorem SH.sub (h : SH b H L) (hs : ∀ q ∈ L', q ∈ L) : SH b H L' := ⟨h.bag, fun q hq => h.nb q (hs q hq), fun q hq => h.kn q (hs q hq)⟩
theorem SH.get (h : SH b H L) (hm : (p, o) ∈ L) : H p = some o := h.kn _ hm
theorem SH.ne (h : SH b H L) (hm : (p, o) ∈ L) : p ≠ b.1 := (h.nb _ hm).1
/-- the first of them is written; the others stand elsewhere -/
theorem SH.put (h : SH b H ((p, o) :: L)) (hd : ∀ q ∈ L, q.1 ≠ p) : SH b (upd H p o') ((p, o') :: L) :=
  ⟨h.bag.upd (h.nb _ (.head _)).1 (h.nb _ (.head _)).2, fun q hq => (List.mem_cons.mp hq).elim (fun z => by rw [z]; exact h.nb (p, o) (.head L)) (fun hq => h.nb q (.tail _ hq)),
    fun q hq => (List.mem_cons.mp hq).elim (fun z => by rw [z]; exact upd_same) (fun hq => by rw [upd_ne (hd q hq)]; exact h.kn q (.tail _ hq))⟩
theorem SH.apart (h : SH b H L) (n : H p = none) : ∀ q ∈ L, q.1 ≠ p := fun q hq => ne_of_none (h.kn q hq) n
theorem SH.nil (g : Bag b H) : SH b H [] := ⟨g, (fun _ h => absurd h List.not_mem_nil), (fun _ h => absurd h List.not_mem_nil)⟩
end
theorem bits_nil : Bits [] := fun _ h => nomatch h
theorem bits_app {a c : List Int} (h : Bits a) (h' : Bits c) : Bits (a ++ c) := fun z hz => (List.mem_append.mp hz).elim (h z) (h' z)
theorem bits_one {z : Int} (h : z = 0 ∨ z = 1) : Bits [z] := fun y hy => by rw [List.mem_singleton.mp hy]; exact h
theorem bits_take {a : List Int} (h : Bits a) (n : Nat) : Bits (a.take n) := fun z hz => h z (List.mem_of_mem_take hz)
theorem bits_drop {a : List Int} (h : Bits a) (n : Nat) : Bits (a.drop n) := fun z hz => h z (List.mem_of_mem_drop hz)
theorem seal_bits (ns : List Int) : Bits (sealL ns) := wr_bits _ _
theorem seal_len (ns : List Int) : (sealL ns).length = 16 := wr_len _ _
theorem cut_to_n (xs : List V) (n : Nat) : cutV xs none (some (n : Int)) = xs.take n := by
  unfold cutV
  rw [HT.sIx_none, HT.sIx_nat, List.drop_zero, Nat.sub_zero]
  by_cases h : n ≤ xs.length
  · rw [Nat.min_eq_left h]
  · rw [Nat.min_eq_right (by omega), List.take_of_length_le (Nat.le_refl _), List.take_of_length_le (by omega)]
theorem cut_from_n (xs : List V) (n : Nat) : cutV xs (some (n : Int)) none = xs.drop n := by
  unfold cutV
  rw [HT.sIx_none, HT.sIx_nat]
  by_cases h : n ≤ xs.length
  · rw [Nat.min_eq_left h]
    exact List.take_of_length_le (by simp)
  · rw [Nat.min_eq_right (by omega), List.drop_of_length_le (Nat.le_refl _), List.drop_of_length_le (by omega)]
    exact List.take_nil
theorem sIx_back (l d n : Nat) (h : 0 < n) : HT.sIx l d (some (-(n : Int))) = l - n := by
  show (if -(n : Int) < 0 then (-(n : Int) + (l : Int)).toNat else min (-(n : Int)).toNat l) = l - n
  rw [if_pos (by omega)]
  omega
theorem cut_to_b (xs : List V) (n : Nat) (h : 0 < n) : cutV xs none (some (-(n : Int))) = xs.take (xs.length - n) := by
  unfold cutV
  rw [HT.sIx_none, sIx_back _ _ n h, List.drop_zero, Nat.sub_zero]
theorem cut_from_b (xs : List V) (n : Nat) (h : 0 < n) : cutV xs (some (-(n : Int))) none = xs.drop (xs.length - n) := by
  unfold cutV
  rw [HT.sIx_none, sIx_back _ _ n h]
  exact List.take_of_length_le (by simp)
theorem sz4 {n : Nat} (h : n ≤ 100000) : n ≤ sizeLine := Nat.le_trans h (by decide)
theorem sz4l {n : Nat} (h : n < 100000) : n < sizeLine := Nat.lt_of_lt_of_le h (by decide)
theorem holds_sealed {ns : List Int} : holdsB (ns ++ sealL ns) = true := by
  unfold holdsB
  have l : (ns ++ sealL ns).length = ns.length + 16 := by rw [List.length_append, seal_len]
  rw [l, Nat.add_sub_cancel, List.take_left, List.drop_left]
  simp
theorem holds_short {ns : List Int} (h : ns.length < 16) : holdsB ns = false := by
  unfold holdsB
  rw [decide_eq_false (by omega), Bool.false_and]
theorem inV_ints (z : Int) : ∀ ks : List Int, inV (.int z) (ks.map V.int) = decide (z ∈ ks)
  | [] => rfl
  | k :: r => by
    show ((k == z) || inV (.int z) (r.map V.int)) = _
    rw [inV_ints z r]
    by_cases h : z = k
    · subst h
      simp
    · have h2 : (k == z) = false := by simpa using fun e => h e.symm
      rw [h2, Bool.false_or]
      exact decide_eq_decide.mpr ⟨fun hm => .tail _ hm, fun hm => (List.mem_cons.mp hm).elim (fun e => absurd e h) (fun e => e)⟩
def isB (b : Int) : Prop := b = 0 ∨ b = 1
theorem bits_cons {b : Int} {r : List Int} (h : Bits (b :: r)) : isB b ∧ Bits r := ⟨h b (.head _), fun z hz => h z (.tail _ hz)⟩
theorem getI {ns : List Int} {i : Nat} {y : V} (h : (ns.map V.int)[i]? = some y) : ∃ z, ns[i]? = some z ∧ y = V.int z := by
  rw [List.getElem?_map] at h
  cases e : ns[i]? with
  | none => rw [e] at h; cases h
  | some z => rw [e] at h; exact ⟨z, rfl, (Option.some.inj h).symm⟩
end WB
namespace WB
open PySem PySem.Spec PyProof.Rows L2
/-! ### a class's own function, called by the class: C.m(e, ..) -/
structure ClsFn (K : PySem.W.Frag) (mg : Str → Option Value) (x m : Str) (C f : Addr) : Prop where
  gC : mg x = some (.ref C)
  sg : PySem.W.specialIn K (.ref C) "__getattribute__" = some (some (.builtin "type.__getattribute__"))
  ty : PySem.W.typeIn K (.ref C) = some (.type "type")
  rd : PySem.W.readsIn K C (.type "type") = true
  fc : PySem.W.findCls K (.ref C) (.type "type") m = some (.val (.ref f))
  hd : PySem.W.handedIn (.ref f) = true
  kp : PySem.W.keepIn K (.ref f) = true
section
variable {X : Cx} {CX : CXT} {k : Nat} {f C : Addr} {fd : FuncData} {ps : List Str} {sp : Sp} {E : XK} {x m : Str} {p1 p2 pos : Pos} {e : Expr} {es : List Expr} {t : TA}
theorem pe_clsfn {pl : Sem Bool} (T : ClsFn X.K X.mg x m C f) (F : FnOk X.prog X.w X.K X.mg X.base CX k f fd ps sp) (hr : Room k X.A) (hb : Binds X.K fd ps []) (hx : Passes CX X E) (hg : Gl X x) (ha : PA X (e :: es) t)
    (hc : eval (.Call (.Attribute (.Name x p1) m p2) (e :: es) [] pos) X.env = (do
      let ov ← eval (.Name x p1) X.env
      standAt p2.atName
      let (f, first) ← holding [ov] (getMethod ov m pl)
      callWith pos f first (backTo pos (starEach (e :: es) X.env)) (backToKw pos (keywordEach [] X.env))) := by rfl)
    (hdb : (x == ("__debug__" : Str)) = false := by decide) (he : starEach (e :: es) X.env = (false, eval e X.env) :: starEach es X.env := by rfl) (hpl : (backTo pos (starEach es X.env)).any (·.1) = false := by rfl) :
    PE X (.Call (.Attribute (.Name x p1) m p2) (e :: es) [] pos) (tCall sp [] E t) := by
  refine ⟨fun pins s σ H Q I h => ?_⟩
  refine PySem.W.methodCall_KW (ld_glob I hg T.gC ?_ hdb) hc
  obtain ⟨mm, fr⟩ := I.fr
  refine PySem.W.method_of_cls fr I.ok.mod.kin T.sg (PySem.W.cls_val fr I.ok.mod.kin T.ty T.rd T.fc T.hd ?_)
  show wpAny _ _ (callWith pos (Value.ref f) [] (backTo pos (starEach (e :: es) X.env)) []) _ _ _
  refine PySem.W.callWith_K (h₀ := X.base) I.ok.mod.kin T.kp (thn (ha.run pos pins _ σ H _ (I.tok _) h) fun us s1 ⟨vs, H1, I1, r, q⟩ => ⟨I1.kIn, ?_⟩) he hpl
  exact run_fn F hr hb .nil hx I1 r q
end
/-! ### own exceptions -/
/-- LineError.__init__ -/
def spLE (K : PySem.W.Frag) : Sp := fun vs H Q _ => ∃ (a C : Addr) (w t : V), vs = [.ref a, w, t] ∧ OexC K C ∧ PySem.W.findIn K (.ref C) "word" = some none ∧ H a = some (exo a C none) ∧
  ∀ d, H d = none → d ≠ a → Q .non (upd (upd H d (exd d [(("word" : Str), w)])) a (exo a C (some d)))
/-- a class below it, its name, its field -/
def spIni (K : PySem.W.Frag) (C : Addr) (nm fld : Str) : Sp := fun vs H Q _ => ∃ (a : Addr) (i : Int), vs = [.ref a, .int i] ∧ i.natAbs.log2 < 1000 ∧ H a = some (exo a C none) ∧
  ∀ d, H d = none → d ≠ a → Q .non (upd (upd (upd H d (exd d [(("word" : Str), .str nm)])) a (exo a C (some d))) d (exd d [(fld, .int i), (("word" : Str), .str nm)]))
def XcOk (P : Program) (w : World) (K : PySem.W.Frag) (mg : Str → Option Value) (base : Heap) (k : Nat) (nm : Str) (C : Addr) (sp : Sp) : Prop :=
  ∃ (fI : Addr) (fd : FuncData) (ps : List Str), OexC K C ∧ PySem.W.findIn K (.ref C) "__init__" = some (some (.ref fI)) ∧ PySem.W.typeIn K (.ref fI) = some (.type "function") ∧ FnOk P w K mg base CX0 k fI fd ps sp ∧ Binds K fd ps [] ∧ mg nm = some (.ref C)
theorem XcOk.mono {P : Program} {w : World} {K : PySem.W.Frag} {mg : Str → Option Value} {base : Heap} {j k : Nat} {nm : Str} {C : Addr} {sp : Sp} (x : XcOk P w K mg base j nm C sp) (h : j ≤ k) : XcOk P w K mg base k nm C sp := by
  obtain ⟨fI, fd, ps, a, b, c, d, e⟩ := x
  exact ⟨fI, fd, ps, a, b, c, d.mono h, e⟩
section
variable {X : Cx} {k : Nat} {nm : Str} {C : Addr} {sp : Sp} {e : Expr} {es : List Expr} {ta : TA} {p pos : Pos}
theorem pmk_c (x : XcOk X.prog X.w X.K X.mg X.base k nm C sp) (hr : Room (k + 1) X.A) (hg : Gl X nm) (ha : PA X (e :: es) ta) (hdb : (nm == ("__debug__" : Str)) = false := by decide)
    (he : starEach (e :: es) X.env = (false, eval e X.env) :: starEach es X.env := by rfl) (hpl : (backTo pos (starEach es X.env)).any (·.1) = false := by rfl) : PMk X (.Call (.Name nm p) (e :: es) [] pos) (tMkO C sp [] ta) := by
  obtain ⟨fI, fd, ps, a, b, c, d, e1, g⟩ := x
  exact pmk_oex a b c d hr e1 .nil pass0 hg g ha hdb he hpl
end
theorem mk_inner {K : PySem.W.Frag} {C : Addr} {nm fld : Str} {i : Int} {H1 : Hp} {Q : XK} (hi : i.natAbs.log2 < 1000)
    (q : ∀ H' d, Same H1 H' → H1 d = none → H' d = some (.xd [(fld, .int i), (("word" : Str), .str nm)]) → Q (.ref C) (some d) H') :
    ([V.int i] : List V).length ≤ 1000 ∧ ∀ a, H1 a = none → spIni K C nm fld (.ref a :: ([V.int i] ++ [])) (upd H1 a (exo a C none))
      (fun v H2 => v = .non ∧ ∃ (d : Addr) (fs : List (Str × V)), H2 a = some (exo a C (some d)) ∧ H2 d = some (exd d fs) ∧ H1 d = none ∧ Q (.ref C) (some d) (upd (del H2 a) d (.xd fs))) (fun _ _ _ => False) := by
  refine ⟨by show 1 ≤ 1000; decide, fun a na => ⟨a, i, rfl, hi, upd_same, fun d nd da => ⟨rfl, d, [(fld, .int i), (("word" : Str), .str nm)], ?_, upd_same, ?_, ?_⟩⟩⟩
  · rw [upd_ne da.symm, upd_same]
  · rw [upd_ne da] at nd
    exact nd
  · rw [upd_ne da] at nd
    refine q _ d (fun b o h => ?_) nd upd_same
    have hb : b ≠ d := ne_of_none h nd
    have hba : b ≠ a := ne_of_none h na
    rw [upd_ne hb, del_ne hba, upd_ne hb, upd_ne hba, upd_ne hb, upd_ne hba]
    exact h
/-! ### defs that may let an exception out -/
def CalX (P : Program) (w : World) (K : PySem.W.Frag) (mg : Str → Option Value) (base : Heap) (k : Nat) (nm : Str) (ps : List Str) (sp : Sp) : Prop :=
  ∃ (f : Addr) (fd : FuncData), FnOk P w K mg base (L2.CX P w) k f fd ps sp ∧ mg nm = some (.ref f) ∧ PySem.W.keepIn K (.ref f) = true ∧ Binds K fd ps []
theorem CalX.mono {P : Program} {w : World} {K : PySem.W.Frag} {mg : Str → Option Value} {base : Heap} {j k : Nat} {nm : Str} {ps : List Str} {sp : Sp} (c : CalX P w K mg base j nm ps sp) (h : j ≤ k) : CalX P w K mg base k nm ps sp := by
  obtain ⟨f, fd, a, b, d, e⟩ := c
  exact ⟨f, fd, a.mono h, b, d, e⟩
section
variable {X : Cx} {k : Nat} {nm : Str} {ps : List Str} {sp : Sp} {E : XK} {e : Expr} {es : List Expr} {t : TA} {p pos : Pos}
/-- where it lets nothing out -/
theorem pe_callF (c : CalX X.prog X.w X.K X.mg X.base k nm ps sp) (hr : Room k X.A) (hg : Gl X nm) (ha : PA X (e :: es) t) (hdb : (nm == ("__debug__" : Str)) = false := by decide)
    (he : starEach (e :: es) X.env = (false, eval e X.env) :: starEach es X.env := by rfl) (hpl : (backTo pos (starEach es X.env)).any (·.1) = false := by rfl) :
    PE X (.Call (.Name nm p) (e :: es) [] pos) (tCall sp [] E0 t) := by
  obtain ⟨f, fd, a, b, d, g⟩ := c
  exact pe_call a hr hg b d g .nil passL ha hdb he hpl
/-- where what it lets out is taken -/
theorem pe_callP (c : CalX X.prog X.w X.K X.mg X.base k nm ps sp) (hr : Room k X.A) (hx : Passes (L2.CX X.prog X.w) X E) (hg : Gl X nm) (ha : PA X (e :: es) t) (hdb : (nm == ("__debug__" : Str)) = false := by decide)
    (he : starEach (e :: es) X.env = (false, eval e X.env) :: starEach es X.env := by rfl) (hpl : (backTo pos (starEach es X.env)).any (·.1) = false := by rfl) :
    PE X (.Call (.Name nm p) (e :: es) [] pos) (tCall sp [] E t) := by
  obtain ⟨f, fd, a, b, d, g⟩ := c
  exact pe_call a hr hg b d g .nil hx ha hdb he hpl
end
theorem txt_fits {z : Str} {i : Int} (hz : z.length ≤ 1000) (hi : i.natAbs.log2 < 1000) : (z ++ Str.ofString (toString i)).length ≤ sizeLine := by
  have e := PySem.int_text_length_le (k := 1000) (a := i) (by decide) hi
  rw [PySem.Str.length_append, PySem.ofString_length, PySem.sizeLine_eq]
  omega
/-! ### several clauses, each with the name n (slot i) -/
def asEnds (i : Nat) (D : Ends) : Ends := ⟨fun σ' H' => D.nx (σ'.set i none) H', D.rt, fun σ' H' => D.bk (σ'.set i none) H', fun σ' H' => D.ct (σ'.set i none) H'⟩
def wManyA (K : PySem.W.Frag) (i : Nat) (Wo : WX) (D : Ends) : List (Value × (Addr → Value → Option Addr → TS)) → WX
  | [] => Wo
  | (c, ts) :: r => fun cls d σ H => ∃ b, PySem.W.exmOne K cls c = some b ∧ (b = true → ∀ a, H a = none → ts a cls d (asEnds i D) (σ.set i (some (.ref a))) H) ∧ (b = false → wManyA K i Wo D r cls d σ H)
inductive HdsA (X : Cx) (n : Str) : List ExceptHandler → List (Value × (Addr → Value → Option Addr → TS)) → Prop
  | nil : HdsA X n [] []
  | cons {x : Str} {c : Value} {ts : Addr → Value → Option Addr → TS} {st : Stmt} {sts : List Stmt} {q1 q2 : Pos} {hs : List ExceptHandler} {l : List (Value × (Addr → Value → Option Addr → TS))} (hc : Names X x c)
      (hsu : ∀ (a : Addr) (oe : Obj) (cls : Value) (d : Option Addr) (pn : List (Addr × Obj)), Zc cls d oe → (∃ vs, oe.data = .fields vs) → PSs (X.suite a ((a, oe) :: pn)) (st :: sts) (ts a cls d)) (r : HdsA X n hs l) :
      HdsA X n (.ExceptHandler (some (.Name x q1)) (some n) (st :: sts) q2 :: hs) ((c, ts) :: l)
section
variable {X : Cx} {n : Str} {i : Nat} {bd : List Stmt} {h0 : ExceptHandler} {hs : List ExceptHandler} {l : List (Value × (Addr → Value → Option Addr → TS))} {pos : Pos} {tb : WX → TS} {Wo : WX}
theorem ps_try_manyA (hst : X.stack = X.env :: X.outer) (hfm : X.env.frame = some X.env.locals) (hnd : X.N.Nodup) (hni : X.N[i]? = some n) (hnl : X.env.kindOf n = some .local) (tk : Takes X Wo)
    (hb : ∀ (W : WX) (pn : List (Addr × Obj)) (xe : Value → Shared → Prop), Takes (X.tr pn xe) W → PassesOwn (model X.prog X.w) X.A X.env xe → PSs (X.tr pn xe) bd (tb W))
    (hh : HdsA X n (h0 :: hs) l) : PS X (.Try bd (h0 :: hs) [] [] pos) (fun D σ H => tb (wManyA X.K i Wo D l) D σ H) := by
  refine ⟨fun pins s σ H D I hw => ?_⟩
  have kk := I.ok
  have hfr2 : X.A.frames = some (X.env :: X.outer) := kk.frames.trans (congrArg some hst)
  have hlo : Loc X.env.scope n := Or.inl hnl
  refine wpAny_Try_except (wpAny_mono ((hb (wManyA X.K i Wo D l) (X.pn ++ pins) (fun e z1 => wpAny (model X.prog X.w) X.A (noteFrame e X.env) (fun _ z2 => wpAny (model X.prog X.w) X.A (setFlight e none) (fun _ z3 =>
    wpAny (model X.prog X.w) X.A (handleBy e X.env (h0 :: hs)) (SP X pins D) X.xe z3) X.xe z2) X.xe z1) (fun u z' xx => ?_) PassesOwn.looking).run [] s σ H D (I.toTry _) hw) (fun fl z1 hsp => ?_) (fun _ _ y => y))
  · obtain ⟨a, B, sI, pins', τ, G, cls, d, rfl, J', nb, up, sky, na, hos, hag, wch⟩ := xx
    have J : Inv X pins τ G sI := J'.ofTry kk
    have sky2 : Sky B (X.env :: X.outer) a (Zc cls d) X.env.locals z'.heap := hst ▸ sky
    refine Sky.land Zc.steady hfr2 hfm sky2 fun g3 fl3 up3 => ?_
    have J3 : Inv X pins τ G { z' with heap := g3 } := J.landed nb fl3.1 (up.trans up3) hos hag
    obtain ⟨o3, v3, he3, hz3, hd3⟩ := fl3.there
    have nin : a ∉ frs (X.env :: X.outer) := fun hm => by
      obtain ⟨_, o', e', hnf⟩ := fl3.2.2.1.mem hm
      rw [he3] at e'; cases e'; exact hnf _ hd3
    have nL : a ≠ X.env.locals := fun y => nin (List.mem_filterMap.mpr ⟨X.env, List.mem_cons_self, hfm.trans (congrArg some y.symm)⟩)
    have nF : a ∉ X.fs := fun hm => by
      obtain ⟨e, he, y⟩ := List.mem_filterMap.mp hm
      exact nin (List.mem_filterMap.mpr ⟨e, List.mem_cons_of_mem _ he, y⟩)
    have S3 := J3.suite he3 hd3 na nL nF
    have go : ∀ {hs' : List ExceptHandler} {l' : List (Value × (Addr → Value → Option Addr → TS))}, HdsA X n hs' l' → wManyA X.K i Wo D l' cls d τ G → wpAny (model X.prog X.w) X.A (handleBy (.ref a) X.env hs') (SP X pins D) X.xe { z' with heap := g3 } := by
      intro hs' l' hk
      induction hk with
      | nil =>
        intro wch
        obtain ⟨k1, k2, k3, oe, vs, T, oT, ts', he, hz, hd, h1, hr⟩ := id fl3
        refine wpAny_handleBy_nil ?_
        unfold PySem.passOn
        refine wpAny_bind (wpAny_field he hd h1 ?_)
        have fin : wpAny (model X.prog X.w) X.A (setFlight (.ref a) X.env.frame) (fun _ z4 => wpAny (model X.prog X.w) X.A (throw (.ref a) : Sem Flow) (SP X pins D) X.xe z4) X.xe { z' with heap := g3 } := by
          rw [hfm]
          exact HandSPX.setFlight_upZ fl3 fun h4 hh4 up4 => wpAny_throw (tk _ _ ⟨a, B, sI, pins, τ, G, cls, d, rfl, J, nb, (up.trans up3).trans up4, .inr (.inr (hst ▸ hh4)), na, hos, hag, wch⟩)
        rw [if_neg (by simp : ¬ ((Value.ref T == Value.none) = true))]
        first | exact wpAny_bind (wpAny_pure (wpAny_bind fin)) | exact wpAny_bind fin
      | @cons x c ts st sts q1 q2 hs2 l2 hc hsu r ih =>
        intro wch
        obtain ⟨b, hb1, yes, no⟩ := wch
        refine wpAny_handleBy_cons (codeAny_handlers_test ?_) (fun y => by cases y)
        have LT : PySem.W.Looks (model X.prog X.w) g3 (typeOf (.ref a)) cls := fun A Q E s k q => wpAny_typeOf_ref (k _ _ he3) (hz3.1.symm ▸ q)
        have LM := PySem.W.exm_one (M := model X.prog X.w) J3.kIn LT hb1
        have tst : ∀ {Q : Value → Shared → Prop} {E : Value → Shared → Prop}, Q c { z' with heap := g3 } → wpAny (model X.prog X.w) (X.A.mark (some (.ref a))) (eval (.Name x q1) X.env) Q E { z' with heap := g3 } := fun {Q E} y => by
          rcases hc with ⟨hg, hdb, hm | ⟨hm, hv, hnn⟩⟩
          · exact ld_glob (X := X.suite a ((a, o3) :: (X.pn ++ pins))) S3 hg hm y hdb
          · exact ld_blt (X := X.suite a ((a, o3) :: (X.pn ++ pins))) S3 hg hm hv y hnn hdb
        refine tst (LM.here ?_)
        cases b with
        | false => exact ih (no rfl)
        | true =>
          refine codeAny_handlers_suite_as (HandSPX.lands_againZ fl3 fun g4 fl4 up4 => ?_)
          have J4 : Inv X pins τ G { z' with heap := g4 } := J.landed nb fl4.1 ((up.trans up3).trans up4) hos hag
          obtain ⟨o4, v4, he4, hz4, hd4⟩ := fl4.there
          refine store_ok (X := X.suite a ((a, o4) :: (X.pn ++ pins))) (v := .ref a) (J4.suite he4 hd4 na nL nF) hnd hni hlo rfl (fun s5 S5 => ?_) (.inr hnl)
          refine wpAny_mono ((hsu a o4 cls d (X.pn ++ pins) hz4 ⟨_, hd4⟩).run [] s5 _ G _ S5 (yes rfl a na)) (fun fl z6 hsp => ?_) (fun _ _ y => y.elim)
          have over : ∀ {τ6 : L2.St} {G6 : Hp} {R : Shared → Prop}, Inv (X.suite a ((a, o4) :: (X.pn ++ pins))) [] τ6 G6 z6 → (∀ z7, Inv X pins (τ6.set i none) G6 z7 → R z7) →
              wpAny (model X.prog X.w) X.A (do bindName X.env n .none; unbindBehindTheSuite X.env n q2) (fun _ z7 => R z7) X.xe z6 := fun S6 hq => gone_ok (S6.unsuite kk) hnd hni hnl hq
          cases fl with
          | next => obtain ⟨τ6, G6, S6, q6⟩ := hsp; exact over S6 fun z7 J7 => ⟨_, _, J7, q6⟩
          | brk => obtain ⟨τ6, G6, S6, q6⟩ := hsp; exact over S6 fun z7 J7 => ⟨_, _, J7, q6⟩
          | cont => obtain ⟨τ6, G6, S6, q6⟩ := hsp; exact over S6 fun z7 J7 => ⟨_, _, J7, q6⟩
          | ret u => obtain ⟨v6, τ6, G6, S6, r6, q6⟩ := hsp; exact over S6 fun z7 J7 => ⟨_, _, _, J7, r6, q6⟩
    exact go hh wch
  · cases fl with
    | next => obtain ⟨τ, G, J', q⟩ := hsp; exact wpAny_execs_nil ⟨τ, G, J'.ofTry kk, q⟩
    | brk => obtain ⟨τ, G, J', q⟩ := hsp; exact ⟨τ, G, J'.ofTry kk, q⟩
    | cont => obtain ⟨τ, G, J', q⟩ := hsp; exact ⟨τ, G, J'.ofTry kk, q⟩
    | ret u => obtain ⟨v, τ, G, J', r, q⟩ := hsp; exact ⟨v, τ, G, J'.ofTry kk, r, q⟩
end
/-! ### what a law with lambdas knows of the heap: the bag at b, the tables T, these lists -/
/-- all that is no list stays -/
def NL (H H' : Hp) : Prop := ∀ a o, H a = some o → (∀ xs, o ≠ .lst xs) → H' a = some o
theorem tabs_nl {T : List (Addr × Str)} {H H' : Hp} (t : LamX.Tabs T H) (h : NL H H') : LamX.Tabs T H' := fun p hp => by
  obtain ⟨ps, h1, h2, h3⟩ := t p hp
  refine ⟨ps, h _ _ h1 (fun xs z => by cases z), h2, fun pos cv hc => ?_⟩
  obtain ⟨c, e1, e2⟩ := h3 pos cv hc
  exact ⟨c, e1, h _ _ e2 (fun xs z => by unfold LamX.CodeO at z; cases z)⟩
structure ST (b : Addr × Addr) (T : List (Addr × Str)) (H : Hp) (L : List (Addr × List V)) : Prop where
  bag : Bag b H
  nb : ∀ p ∈ L, p.1 ≠ b.1 ∧ p.1 ≠ b.2
  kn : ∀ p ∈ L, H p.1 = some (.lst p.2)
  tab : LamX.Tabs T H
section
variable {b : Addr × Addr} {T : List (Addr × Str)} {p : Addr} {H H' : Hp} {L L' : List (Addr × List V)} {o o' : List V}
theorem ST.same (h : ST b T H L) (s : Same H H') : ST b T H' L := ⟨h.bag.same s, h.nb, fun q hq => s _ _ (h.kn q hq), h.tab.ext s⟩
theorem ST.mv (h : ST b T H L) (m : Mv b.1 H H') (g : Bag b H') : ST b T H' L := ⟨g, h.nb, fun q hq => m _ _ (h.nb q hq).1 (h.kn q hq), tabs_nl h.tab (fun a o e n => m a o (fun z => by
  obtain ⟨_, _, _, _, _, h1, _⟩ := h.bag
  rw [z, h1] at e
  exact n _ (Option.some.inj e).symm) e)⟩
theorem ST.add (h : ST b T H L) (n : p ≠ b.1) (n2 : p ≠ b.2) (e : H p = some (.lst o)) : ST b T H ((p, o) :: L) :=
  ⟨h.bag, fun q hq => (List.mem_cons.mp hq).elim (fun z => by rw [z]; exact ⟨n, n2⟩) (h.nb q), fun q hq => (List.mem_cons.mp hq).elim (fun z => by rw [z]; exact e) (h.kn q), h.tab⟩
theorem ST.new (h : ST b T H L) (n : H p = none) : ST b T (upd H p (.lst o)) ((p, o) :: L) := (h.same (same_upd n)).add (h.bag.ne n) (h.bag.ne2 n) upd_same
theorem ST.newS (h : ST b T H L) (s : Same H H') (n : H p = none) (e : H' p = some (.lst o)) : ST b T H' ((p, o) :: L) := (h.same s).add (h.bag.ne n) (h.bag.ne2 n) e
theorem ST.newM (h : ST b T H L) (m : Mv b.1 H H') (g : Bag b H') (n : H p = none) (e : H' p = some (.lst o)) : ST b T H' ((p, o) :: L) := (h.mv m g).add (h.bag.ne n) (h.bag.ne2 n) e
theorem ST.sub (h : ST b T H L) (hs : ∀ q ∈ L', q ∈ L) : ST b T H L' := ⟨h.bag, fun q hq => h.nb q (hs q hq), fun q hq => h.kn q (hs q hq), h.tab⟩
theorem ST.get (h : ST b T H L) (hm : (p, o) ∈ L) : H p = some (.lst o) := h.kn _ hm
theorem ST.ne (h : ST b T H L) (hm : (p, o) ∈ L) : p ≠ b.1 := (h.nb _ hm).1
theorem ST.put (h : ST b T H ((p, o) :: L)) (hd : ∀ q ∈ L, q.1 ≠ p) : ST b T (upd H p (.lst o')) ((p, o') :: L) :=
  ⟨h.bag.upd (h.nb _ (.head _)).1 (h.nb _ (.head _)).2, fun q hq => (List.mem_cons.mp hq).elim (fun z => by rw [z]; exact h.nb (p, o) (.head L)) (fun hq => h.nb q (.tail _ hq)),
    fun q hq => (List.mem_cons.mp hq).elim (fun z => by rw [z]; exact upd_same) (fun hq => by rw [upd_ne (hd q hq)]; exact h.kn q (.tail _ hq)), tabs_nl h.tab (fun a u e n => by
      have e2 := h.kn (p, o) (.head _)
      rw [upd_ne (fun z => by rw [z, e2] at e; exact n _ (Option.some.inj e).symm)]
      exact e)⟩
theorem ST.apart (h : ST b T H L) (n : H p = none) : ∀ q ∈ L, q.1 ≠ p := fun q hq => ne_of_none (h.kn q hq) n
theorem ST.nil (g : Bag b H) (t : LamX.Tabs T H) : ST b T H [] := ⟨g, (fun _ h => absurd h List.not_mem_nil), (fun _ h => absurd h List.not_mem_nil), t⟩
theorem ST.extN (h : ST b T H L) (e : LamX.ExtN H H') (t : LamX.Tabs T H') : ST b T H' L := by
  refine ⟨?_, h.nb, fun q hq => e _ _ (h.kn q hq) (fun ps z => by cases z), t⟩
  obtain ⟨ns, i, r, x, c, h1, h2, h3⟩ := h.bag
  exact ⟨ns, i, r, x, c, e _ _ h1 (fun ps z => by cases z), e _ _ h2 (fun ps z => by cases z), h3⟩
end
/-! ### takes, where the slots are as many as the names -/
theorem takes_len {X : Cx} {W : WX} (tk : Takes X W) : Takes X (fun cls d σ H => σ.length = X.N.length → W cls d σ H) := fun u s' x => by
  obtain ⟨a, B, sI, pins, σ, H, cls, d, e, I, nb, up, sky, na, os, ag, w⟩ := x
  exact tk u s' ⟨a, B, sI, pins, σ, H, cls, d, e, I, nb, up, sky, na, os, ag, w I.len⟩
/-- what the law's at makes of a lambda that is refused by one of these classes -/
def TAt (cs : List (Addr × Str)) : (XK → Hp → VK → Prop) → Hp → VK → Prop := fun tl H Q =>
  tl (fun cls d H' => ∃ e ∈ cs, cls = .ref e.1 ∧ ∃ (dd : Addr) (v : V), d = some dd ∧ H' dd = some (.xd [(("at" : Str), v), (("word" : Str), .str e.2)]) ∧ ∀ p, H' p = none → Q (.ref p) (upd H' p (.lst [.str e.2, v]))) H (fun _ _ => False)
/-- a class of refusals with a place -/
structure AtC (K : PySem.W.Frag) (mg : Str → Option Value) (nm : Str) (C : Addr) : Prop where
  gC : mg nm = some (.ref C)
  xf : XfC K C
  no : PySem.W.findIn K (.ref C) "at" = some none
theorem set_get {σ : L2.St} {i : Nat} {v : Option V} (h : i < σ.length) : (σ.set i v)[i]? = some v := by
  rw [List.getElem?_set_self h]
/-! ### a law that hands lambdas to a def -/
def LamTo (X : Cx) (T : List (Addr × Str)) (nm : Str) (TT : (XK → Hp → VK → Prop) → Hp → VK → Prop) : Prop :=
  ∀ {params : Arguments} {body : Expr} {scope : Scope} {t : XK → TE} {p lpos pos : Pos} {k : Nat}, Room (k + 2) X.A → LamX.LamS X.env.scope scope → defaultsOf params X.env = ([], []) →
    (∀ (q : Str) (cl : List (Str × Addr)) (pm cv ctv : Value), bindArgs (PySem.W.kla_fn "<lambda>" q params body scope cl pm cv ctv) ⟨[], []⟩ = pure []) →
    (∀ (A : Around) (outer : List Env) (s : Shared) (H : Hp) (E : XK) (f c' : Addr), Room k (A.deeper (LamX.lamEnv X scope s.heap.objs.size f c')) → PE (LamX.lamCx X A outer s H E scope f c') body (t E)) →
    PE X (.Call (.Name nm p) [.Lambda params body scope lpos] [] pos) (LamX.tLam T TT t)
theorem okL {P : Program} {w : World} {K : PySem.W.Frag} {mg : Str → Option Value} {base : Heap} {x qual : Str} {st : Stmt} {f c : Addr} {N ps : List Str} {k : Nat} {sp : Sp} {oc : Value} {od an : Option Addr} {osl : Array (Option Value)} {kV doc pm ct : Value}
    (lk : K.lookup f = some ⟨oc, od, .func (PySem.W.fnOf x qual (defArgs st) (defBody st) (defScope st) .none kV doc pm an (.ref c) ct), osl⟩) (hcd : PySem.W.codeIn K (.ref c) qual = true) (S : FnScope N ps (defScope st)) (len : ∀ vs H Q E, sp vs H Q E → vs.length = ps.length)
    (hbody : ∀ (A : Around) (outer : List Env) (s : Shared) (H : Hp) (vs : List V) (Q : VK) (E : XK), Room k (A.deeper (envOfC qual (defScope st) s.heap.objs.size f (.ref c))) → sp vs H Q E →
      ∃ t, PSs (cxOf CX0 P w K mg base N qual (defScope st) f (.ref c) A outer s H E).nox (defBody st) t ∧ t { nx := fun _ H' => Q .non H', rt := Q } (L2.start N vs) H) :
    FnOk P w K mg base CX0 (k + 1) f (PySem.W.fnOf x qual (defArgs st) (defBody st) (defScope st) .none kV doc pm an (.ref c) ct) ps sp := by
  refine fn_of lk hcd S len fun A outer s H vs Q E hr hsp => ?_
  obtain ⟨t, h, q⟩ := hbody A outer s H vs Q E hr hsp
  exact ⟨t, h.nox, q⟩
/-! ### a class of refusals without a value -/
def spIni0 (K : PySem.W.Frag) (C : Addr) (nm : Str) : Sp := fun vs H Q _ => ∃ (a : Addr), vs = [.ref a] ∧ H a = some (exo a C none) ∧ ∀ d, H d = none → d ≠ a → Q .non (upd (upd H d (exd d [(("word" : Str), .str nm)])) a (exo a C (some d)))
section
variable {X : Cx} {k : Nat} {nm : Str} {C : Addr} {sp : Sp} {p pos : Pos}
theorem pmk_c0 (x : XcOk X.prog X.w X.K X.mg X.base k nm C sp) (hr : Room (k + 1) X.A) (hg : Gl X nm) (hdb : (nm == ("__debug__" : Str)) = false := by decide) : PMk X (.Call (.Name nm p) [] [] pos) (tMkO C sp [] tNil) := by
  obtain ⟨fI, fd, ps, T, iC, tI, F1, hb, hm⟩ := x
  intro pins s σ H Q I h
  obtain ⟨nm', q, N, bs, bm, sn, sub, ab, col, dd, k0, k1, k2, k3, k5, hC, hbm⟩ := T.cls
  refine wpAny_Call_Name_kw (ld_glob I hg hm ?_ hdb)
  refine PySem.W.callWith_K0 I.kIn T.kC ?_
  show wpAny _ _ (call (.ref C) []) _ _ _
  have q1 : ∀ a, H a = none → sp (.ref a :: ([] ++ [])) (upd H a (exo a C none)) _ _ := h.2
  obtain ⟨hp, g, dr, tk, os⟩ := s
  have hsz : hp.objs.size ≤ hp.objs.size + 1 := Nat.le_succ _
  have hq := q1 (hp.objs.size + 1) (I.hok.fresh hsz)
  have kk : ∀ b o, hp.get? b = some o → ((hp.push (PySem.W.kdv_tup [])).push (PySem.HandSPX.excO C hp.objs.size)).get? b = some o := fun b o e => Heap.get?_push_of_some _ (Heap.get?_push_of_some _ e)
  have hget : ((hp.push (PySem.W.kdv_tup [])).push (PySem.HandSPX.excO C hp.objs.size)).get? (hp.objs.size + 1) = some (PySem.HandSPX.excO C hp.objs.size) := by heap_get
  have I2 : Inv X pins σ (upd H (hp.objs.size + 1) (exo (hp.objs.size + 1) C none)) ⟨(hp.push (PySem.W.kdv_tup [])).push (PySem.HandSPX.excO C hp.objs.size), g, dr, tk, os⟩ :=
    I.laid (t' := tk) (a := hp.objs.size + 1) (o := exo (hp.objs.size + 1) C none) (h' := (hp.push (PySem.W.kdv_tup [])).push (PySem.HandSPX.excO C hp.objs.size)) kk hsz (exo_ok hget)
  have r2 : Vals [V.ref (hp.objs.size + 1)] [Value.ref (hp.objs.size + 1)] := .cons rfl .nil
  have hl : ([Value.ref (hp.objs.size + 1)] ++ []).length = ps.length := (F1.len _ _ _ _ hq)
  refine wpAny_call (PySem.HandSPX.call_own F.excBase_ValueError (fun Y => PySem.HandSPX.refsVE_contains Y bm hbm) (I.kIn _ _ hC) (PySem.W.looks_findIn I.kIn iC) (fun self => PySem.W.bind_fn I.kIn self tI) (Nat.zero_le _)
    (codeAny_mono (F1.run _ X.stack _ _ ⟨[Value.ref (hp.objs.size + 1)], []⟩ [Value.ref (hp.objs.size + 1)] _ _ (fun _ _ _ => False) (hr.make C [] []) (I2.env0.make C [] []) (hb _ [Value.ref (hp.objs.size + 1)] I2.kIn hl) r2 hq) fun r s' hq' => ?_))
  cases r with
  | error er => exact (show False from hq').elim
  | ok fl =>
    cases fl with
    | ret u =>
      obtain ⟨v, H2, os2, bare2, un2, hok2, rv, ev, d, fs, ea, ed, hd1, q2⟩ := hq'
      subst ev
      obtain ⟨h2, g2, d2, t2, os'⟩ := s'
      exact ⟨rv, mk_end (raises_own T.exC T.tyC) I hsz kk un2 hok2 os2 bare2 ea ed hd1 q2⟩
    | next => exact False.elim hq'
    | brk => exact False.elim hq'
    | cont => exact False.elim hq'
end
theorem mk_inner0 {K : PySem.W.Frag} {C : Addr} {nm : Str} {H1 : Hp} {Q : XK}
    (q : ∀ H' d, Same H1 H' → H1 d = none → H' d = some (.xd [(("word" : Str), .str nm)]) → Q (.ref C) (some d) H') :
    ([] : List V).length ≤ 1000 ∧ ∀ a, H1 a = none → spIni0 K C nm (.ref a :: (([] : List V) ++ [])) (upd H1 a (exo a C none))
      (fun v H2 => v = .non ∧ ∃ (d : Addr) (fs : List (Str × V)), H2 a = some (exo a C (some d)) ∧ H2 d = some (exd d fs) ∧ H1 d = none ∧ Q (.ref C) (some d) (upd (del H2 a) d (.xd fs))) (fun _ _ _ => False) := by
  refine ⟨Nat.zero_le _, fun a na => ⟨a, rfl, upd_same, fun d nd da => ⟨rfl, d, [(("word" : Str), .str nm)], upd_same, ?_, ?_, ?_⟩⟩⟩
  · rw [upd_ne da, upd_same]
  · rw [upd_ne da] at nd
    exact nd
  · rw [upd_ne da] at nd
    refine q _ d (fun b o h => ?_) nd upd_same
    have hb : b ≠ d := ne_of_none h nd
    have hba : b ≠ a := ne_of_none h na
    rw [upd_ne hb, del_ne hba, upd_ne hba, upd_ne hb, upd_ne hba]
    exact h
/-- what the law's tried makes of a lambda: told, or refused by the class at C, whose word it tells -/
def TTried (C : Addr) (nm : Str) : (XK → Hp → VK → Prop) → Hp → VK → Prop := fun tl H Q =>
  tl (fun cls d H' => cls = .ref C ∧ ∃ (dd : Addr) (fs : List (Str × V)), d = some dd ∧ H' dd = some (.xd fs) ∧ fs.lookup ("word" : Str) = some (.str nm) ∧ ∀ p, H' p = none → Q (.ref p) (upd H' p (.tup [.str "refused", .str nm]))) H
    (fun v H1 => ([V.str "told", v] : List V).length ≤ sizeLine ∧ ∀ p, H1 p = none → Q (.ref p) (upd H1 p (.tup [.str "told", v])))
/-! ### a def called by keywords alone -/
def gK {α : Type} (perm : List α → List α) : List α → List α → List α
  | [], ws => perm ws
  | _ :: _, _ => []
section
variable {X : Cx} {CX : CXT} {k : Nat} {f : Addr} {fd : FuncData} {ps ks : List Str} {sp : Sp} {E : XK} {x : Str} {p pos : Pos} {kws : List Keyword} {tk : TA} {g : List Value → List Value → List Value} {gV : List V → List V → List V}
theorem pe_callK0 (F : FnOk X.prog X.w X.K X.mg X.base CX k f fd ps sp) (hr : Room k X.A) (hg : Gl X x) (hm : X.mg x = some (.ref f)) (hk : PySem.W.keepIn X.K (.ref f) = true) (hb : KBinds X.K fd ps ks g gV) (hx : Passes CX X E) (hkw : PK X kws tk)
    (hall : ((backToKw pos (keywordEach kws X.env)).all fun x => x.1.isSome) = true := by rfl) (hks : (backToKw pos (keywordEach kws X.env)).filterMap (·.1) = ks := by rfl) (hdb : (x == ("__debug__" : Str)) = false := by decide)
    (hpl : ((backTo pos (starEach [] X.env)).any (·.1) || (backToKw pos (keywordEach kws X.env)).any fun x => x.1.isNone) = false := by rfl) : PE X (.Call (.Name x p) [] kws pos) (tCallK sp gV E tNil tk) := by
  refine ⟨fun pins s σ H Q I h => wpAny_Call_Name_kw (ld_glob I hg hm ?_ hdb)⟩
  refine PySem.W.callWith_KW0 (I.ok.mod.kin) hk hall (thn (hkw.run pos pins s σ H (fun zs H2 => sp (gV [] zs) H2 Q E) I h) fun ws s2 x => ?_) hpl
  obtain ⟨zs, H2, I2, rz, q2⟩ := x
  refine ⟨I2.kIn, ?_⟩
  rw [hks]
  exact run_fnk F hr hb hx I2 .nil rz q2
end
def CalK (P : Program) (w : World) (K : PySem.W.Frag) (mg : Str → Option Value) (base : Heap) (k : Nat) (nm : Str) (ps ks : List Str) (gV : List V → List V → List V) (sp : Sp) : Prop :=
  ∃ (f : Addr) (fd : FuncData) (g : List Value → List Value → List Value), FnOk P w K mg base (L2.CX P w) k f fd ps sp ∧ mg nm = some (.ref f) ∧ PySem.W.keepIn K (.ref f) = true ∧ KBinds K fd ps ks g gV
theorem CalK.mono {P : Program} {w : World} {K : PySem.W.Frag} {mg : Str → Option Value} {base : Heap} {j k : Nat} {nm : Str} {ps ks : List Str} {gV : List V → List V → List V} {sp : Sp} (c : CalK P w K mg base j nm ps ks gV sp) (h : j ≤ k) : CalK P w K mg base k nm ps ks gV sp := by
  obtain ⟨f, fd, g, a, b, d, e⟩ := c
  exact ⟨f, fd, g, a.mono h, b, d, e⟩
section
variable {X : Cx} {k : Nat} {ps ks : List Str} {sp : Sp} {nm : Str} {p pos : Pos} {kws : List Keyword} {tk : TA} {gV : List V → List V → List V}
theorem pe_callKF (c : CalK X.prog X.w X.K X.mg X.base k nm ps ks gV sp) (hr : Room k X.A) (hg : Gl X nm) (hkw : PK X kws tk)
    (hall : ((backToKw pos (keywordEach kws X.env)).all fun x => x.1.isSome) = true := by rfl) (hks : (backToKw pos (keywordEach kws X.env)).filterMap (·.1) = ks := by rfl) (hdb : (nm == ("__debug__" : Str)) = false := by decide)
    (hpl : ((backTo pos (starEach [] X.env)).any (·.1) || (backToKw pos (keywordEach kws X.env)).any fun x => x.1.isNone) = false := by rfl) : PE X (.Call (.Name nm p) [] kws pos) (tCallK sp gV E0 tNil tk) := by
  obtain ⟨f, fd, g, a, b, d, e⟩ := c
  exact pe_callK0 a hr hg b d e passL hkw hall hks hdb hpl
end
def two {α : Type} : List α → List α
  | [a, b] => [b, a]
  | _ => []
theorem kb_one {K : PySem.W.Frag} {x qual y : Str} {st : Stmt} {f : Addr} {fd : FuncData} (F : Fun K x qual st f fd) (h : ∀ (kV doc pm : Value) (an : Option Addr) (cdv ct : Value) (u : Value), bindArgs (PySem.W.fnOf x qual (defArgs st) (defBody st) (defScope st) .none kV doc pm an cdv ct) ⟨[], [(y, u)]⟩ = pure [(y, u)]) :
    KBinds K fd [y] [y] (gK id) (gK id) := by
  refine ⟨fun s us ws X hl M A E Q q => ?_, fun {vs us zs ws} r rz => ?_⟩
  · obtain ⟨oc, od, kV, doc, pm, an, cdv, ct, osl, rfl, _⟩ := F.ex
    cases us with
    | cons _ _ => exact absurd hl (by show 0 ≠ 1; decide)
    | nil =>
      match ws, hl with
      | [u], _ =>
        show wpAny M A (bindArgs _ ⟨[], [(y, u)]⟩) Q E s
        rw [h]
        exact wpAny_pure q
  · cases r with
    | nil => exact rz
    | cons _ _ => exact .nil
theorem kb_two {K : PySem.W.Frag} {x qual y z : Str} {st : Stmt} {f : Addr} {fd : FuncData} (F : Fun K x qual st f fd) (h : ∀ (kV doc pm : Value) (an : Option Addr) (cdv ct : Value) (u v : Value), bindArgs (PySem.W.fnOf x qual (defArgs st) (defBody st) (defScope st) .none kV doc pm an cdv ct) ⟨[], [(z, u), (y, v)]⟩ = pure [(y, v), (z, u)]) :
    KBinds K fd [y, z] [z, y] (gK two) (gK two) := by
  refine ⟨fun s us ws X hl M A E Q q => ?_, fun {vs us zs ws} r rz => ?_⟩
  · obtain ⟨oc, od, kV, doc, pm, an, cdv, ct, osl, rfl, _⟩ := F.ex
    cases us with
    | cons _ _ => exact absurd hl (by show 0 ≠ 2; decide)
    | nil =>
      match ws, hl, q with
      | [], hl, q => exact absurd hl (by show 0 ≠ 2; decide)
      | [_], hl, q => exact absurd hl (by show 0 ≠ 2; decide)
      | [u, v], _, q =>
        show wpAny M A (bindArgs _ ⟨[], [(z, u), (y, v)]⟩) Q E s
        rw [h]
        exact wpAny_pure q
      | _ :: _ :: _ :: _, hl, q => exact absurd hl (by show 0 ≠ 2; decide)
  · cases r with
    | cons _ _ => exact .nil
    | nil =>
      cases rz with
      | nil => exact .nil
      | cons a r => cases r with
        | nil => exact .nil
        | cons b r => cases r with
          | nil => exact .cons b (.cons a .nil)
          | cons _ _ => exact .nil
/-- what the law's most makes of a lambda that is refused by the class at C -/
def TMost (C : Addr) (nm : Str) : (XK → Hp → VK → Prop) → Hp → VK → Prop := fun tl H Q =>
  tl (fun cls d H' => cls = .ref C ∧ ∃ (dd : Addr) (v : V), d = some dd ∧ H' dd = some (.xd [(("most" : Str), v), (("word" : Str), .str nm)]) ∧ ∀ p, H' p = none → Q (.ref p) (upd H' p (.lst [.str nm, v]))) H (fun _ _ => False)
end WB
namespace WB
open PySem PySem.Spec PyProof.Rows L2
/-! ### lambdas that are kept in a list -/
abbrev lamO (X : Cx) (params : Arguments) (body : Expr) (scope : Scope) (pm : Value) (c' : Addr) (ctv : Value) : Obj := PySem.W.kla_obj "<lambda>" (X.env.qual ++ "<lambda>") params body scope (cloFrom X.env.cells scope.names []) pm c' ctv
section
variable {X : Cx} {pins : List (Addr × Obj)} {σ : L2.St} {H : Hp} {s : Shared}
theorem inv_pin (I : Inv X pins σ H s) (hst : X.stack = X.env :: X.outer) (hfm : X.env.frame = some X.env.locals) {f : Addr} {o : Obj} (hf : s.heap.get? f = some o) (hn : H f = none) (hfr : f ∉ frs X.stack) (hd : ∀ v, o.data ≠ .cell v) : Inv X (pins ++ [(f, o)]) σ H s := by
  have nL : f ≠ X.env.locals := fun y => hfr (List.mem_filterMap.mpr ⟨X.env, by rw [hst]; exact List.mem_cons_self, hfm.trans (congrArg some y.symm)⟩)
  have nF : f ∉ X.fs := fun hm => by
    obtain ⟨e, he, y⟩ := List.mem_filterMap.mp hm
    exact hfr (List.mem_filterMap.mpr ⟨e, by rw [hst]; exact List.mem_cons_of_mem _ he, y⟩)
  refine { I with pin := fun p hp => ?_ }
  rcases List.mem_append.mp hp with h | h
  · exact I.pin p (List.mem_append_left _ h)
  rcases List.mem_append.mp h with h | h
  · exact I.pin p (List.mem_append_right _ h)
  · rw [List.mem_singleton.mp h]
    exact ⟨hf, hn, nL, nF, hd⟩
theorem inv_unpin {l : List (Addr × Obj)} (I : Inv X (pins ++ l) σ H s) : Inv X pins σ H s := by
  refine { I with pin := fun p hp => I.pin p ?_ }
  rcases List.mem_append.mp hp with h | h
  · exact List.mem_append_left _ h
  · exact List.mem_append_right _ (List.mem_append_left _ h)
end
section
variable {X : Cx} {T : List (Addr × Str)} {c P : Addr} {params : Arguments} {body : Expr} {scope : Scope} {lpos lp py pos : Pos} {y : Str} {i : Nat} {rest : List Stmt} {u : Addr → Addr → TS}
theorem sp_back {X : Cx} {pins l : List (Addr × Obj)} {D : Ends} {fl : Flow} {s : Shared} (kk : Cx.Ok X) (h : SP (X.tr (X.pn ++ (pins ++ l)) X.xe) [] D fl s) : SP X pins D fl s := by
  cases fl with
  | next => obtain ⟨τ, G, J, q⟩ := h; exact ⟨τ, G, inv_unpin (J.ofTry kk), q⟩
  | brk => obtain ⟨τ, G, J, q⟩ := h; exact ⟨τ, G, inv_unpin (J.ofTry kk), q⟩
  | cont => obtain ⟨τ, G, J, q⟩ := h; exact ⟨τ, G, inv_unpin (J.ofTry kk), q⟩
  | ret u => obtain ⟨v, τ, G, J, r, q⟩ := h; exact ⟨v, τ, G, inv_unpin (J.ofTry kk), r, q⟩
/-- xs = [lambda: e] -/
theorem pss_lamset {q : Str} (hq : X.env.qual ++ "<lambda>" = q) (hst : X.stack = X.env :: X.outer) (hfm : X.env.frame = some X.env.locals) (hN : X.N.Nodup) (hi : X.N[i]? = some y) (hy : Loc X.env.scope y) (TB : LamX.TabB X.base X.mg c P) (hcode : X.env.code = .ref c) (hmT : (P, X.env.qual ++ "<lambda>") ∈ T)
    (hu : ∀ p ∈ T, p.1 = P → p.2 = X.env.qual ++ "<lambda>") (L : LamX.LamS X.env.scope scope) (hdef : defaultsOf params X.env = ([], []))
    (hrest : ∀ (f c' : Addr) (pm ctv : Value) (pn' : List (Addr × Obj)), f ∉ frs X.stack → (f, lamO X params body scope pm c' ctv) ∈ pn' → (∀ p ∈ X.pn, p ∈ pn') → PSs (X.tr pn' X.xe) rest (u f c'))
    (hs : swapsWith (.List [.Lambda params body scope lpos] lp) (some (.Name y py)) pos.line X.env = pure false := by rfl) (hl : X.fn y = true ∨ X.env.scope.names.lookup y = some .local := by first | exact .inr rfl | exact .inl rfl) :
    PSs X (.Assign [.Name y py] (.List [.Lambda params body scope lpos] lp) pos :: rest)
      (fun D σ H => LamX.Tabs T H ∧ ∀ (f c' : Addr) (H1 : Hp), LamX.ExtN H H1 → LamX.Tabs T H1 → H1 f = none → H1 c' = some (LamX.CodeO c' q) → ∀ p, H1 p = none → u f c' D (σ.set i (some (.ref p))) (upd H1 p (.lst [.ref f]))) := by
  refine ⟨fun pins s σ H D I h => ?_⟩
  subst hq
  obtain ⟨hT, h⟩ := h
  have kk := I.ok
  refine wpAny_execs_cons (wpAny_Assign_Name (wpAny_List_spliced ?_) hs)
  show wpAny _ _ (spliced [(false, _)]) _ _ _
  refine Calls.spliced_cons (LamX.lam_make2 I TB hcode hmT hu hT hdef (L.has I.ok) fun f c' pm ctv H1 s' I1 eN T1 hf hfn hfr hco => Calls.spliced_nil ⟨(by show 1 ≤ sizeLine; decide), ?_⟩)
  have I2 := inv_pin I1 hst hfm hf hfn hfr (fun v z => by cases z)
  have hfresh := I2.hok.fresh (Nat.le_refl s'.heap.objs.size)
  have I3 : Inv X (pins ++ [(f, lamO X params body scope pm c' ctv)]) σ (upd H1 s'.heap.objs.size (.lst [.ref f])) { s' with heap := s'.heap.push { cls := .type "list", data := .seq (List.toArray [Value.ref f]) } } :=
    I2.laid (t' := s'.toks) (fun b w e => Heap.get?_push_of_some _ e) (Nat.le_refl _) ⟨(by show 1 ≤ sizeLine; decide), [Value.ref f], 0, .cons rfl .nil, Heap.get?_push_size s'.heap rfl⟩
  refine store_ok (v := .ref s'.heap.objs.size) I3 hN hi hy rfl (fun s2 I4 => ?_) hl
  have kr := (hrest f c' pm ctv (X.pn ++ (pins ++ [(f, lamO X params body scope pm c' ctv)])) hfr (List.mem_append_right _ (List.mem_append_right _ (.head _))) (fun p hp => List.mem_append_left _ hp)).run [] s2 _ _ D (I4.toTry X.xe) (h f c' H1 eN T1 hfn hco _ hfresh)
  exact wpAny_mono kr (fun fl z hsp => sp_back kk hsp) (fun _ _ y => y)
variable {p1 p2 p3 p4 : Pos}
/-- xs.append(lambda: e) -/
theorem pss_lamapp {q : Str} (hq : X.env.qual ++ "<lambda>" = q) (hst : X.stack = X.env :: X.outer) (hfm : X.env.frame = some X.env.locals) (hv : PE X (.Name y p1) (tVar i)) (TB : LamX.TabB X.base X.mg c P) (hcode : X.env.code = .ref c) (hmT : (P, X.env.qual ++ "<lambda>") ∈ T)
    (hu : ∀ p ∈ T, p.1 = P → p.2 = X.env.qual ++ "<lambda>") (L : LamX.LamS X.env.scope scope) (hdef : defaultsOf params X.env = ([], []))
    (hrest : ∀ (f c' : Addr) (pm ctv : Value) (pn' : List (Addr × Obj)), f ∉ frs X.stack → (f, lamO X params body scope pm c' ctv) ∈ pn' → (∀ p ∈ X.pn, p ∈ pn') → PSs (X.tr pn' X.xe) rest (u f c'))
    (hbase : attributeBase (.Name y p1) "append" X.env (eval (.Name y p1) X.env) = eval (.Name y p1) X.env := by rfl) (hline : (p2.endLine == p3.line) = true := by rfl)
    (hs : swapsWith (.Call (.Attribute (.Name y p1) "append" p2) [.Lambda params body scope lpos] [] p3) none p4.line X.env = pure false := by rfl) :
    PSs X (.Expr (.Call (.Attribute (.Name y p1) "append" p2) [.Lambda params body scope lpos] [] p3) p4 :: rest)
      (fun D σ H => LamX.Tabs T H ∧ ∃ p xs, σ[i]? = some (some (.ref p)) ∧ H p = some (.lst xs) ∧ xs.length < sizeLine ∧ ∀ (f c' : Addr) (H1 : Hp), LamX.ExtN H H1 → LamX.Tabs T H1 → H1 f = none → H1 c' = some (LamX.CodeO c' q) → u f c' D σ (upd H1 p (.lst (xs ++ [.ref f])))) := by
  refine ⟨fun pins s σ H D I h => ?_⟩
  subst hq
  obtain ⟨hT, p, xs, hσ, hp, hz, h⟩ := h
  have kk := I.ok
  refine wpAny_execs_cons (wpAny_Expr_any ?_ I.quiet hs)
  refine wpAny_Call_method_late (trees := [(false, _)]) hbase (by rfl) hline rfl (thn (hv.run pins s σ H (fun x H1 => x = .ref p ∧ H1 = H) I ⟨_, hσ, rfl, rfl⟩) fun v s1 x => ?_)
  obtain ⟨x, H1, I1, r1, rfl, rfl⟩ := x
  obtain ⟨h1, h2⟩ := tyV_is (T := "list") I1 r1 (.inl ⟨rfl, xs, SqL.of hp⟩)
  refine ⟨"list", "list.append", PySem.F.plainAttrs_list, PySem.F.slot_list_append, PySem.F.type_list_append, h1, h2, ?_⟩
  refine Calls.callWith_builtin (by rfl) (Calls.evalArgs_plain ?_)
  refine Calls.spliced_cons (LamX.lam_make2 I1 TB hcode hmT hu hT hdef (L.has I1.ok) fun f c' pm ctv H2 s' I2 eN T2 hf hfn hfr hco => Calls.spliced_nil ?_)
  have I3 := inv_pin I2 hst hfm hf hfn hfr (fun v z => by cases z)
  have hp2 := eN _ _ hp (fun ps z => by cases z)
  refine thn (mt_append (X := X) (pins ++ [(f, lamO X params body scope pm c' ctv)]) s' σ H2 (.ref p) [.ref f] v [Value.ref f] (fun v H' => H' = upd H2 p (.lst (xs ++ [.ref f]))) I3 r1 (.cons rfl .nil) ⟨p, xs, .ref f, rfl, rfl, hp2, hz, rfl⟩) fun w s2 x => ?_
  obtain ⟨w', H', I4, r4, rfl⟩ := x
  have kr := (hrest f c' pm ctv (X.pn ++ (pins ++ [(f, lamO X params body scope pm c' ctv)])) hfr (List.mem_append_right _ (List.mem_append_right _ (.head _))) (fun p hp => List.mem_append_left _ hp)).run [] s2 _ _ D (I4.toTry X.xe) (h f c' H2 eN T2 hfn hco)
  exact wpAny_mono kr (fun fl z hsp => sp_back kk hsp) (fun _ _ y => y)
end
section
variable {X : Cx} {TT : (XK → Hp → VK → Prop) → Hp → VK → Prop} {x a : Str} {g f c' : Addr} {k : Nat} {pg : Arguments} {bg : List Stmt} {sg : Scope} {dV kV doc pm cdv ct oc pm' ctv : Value} {an od : Option Addr} {osl : Array (Option Value)} {Ng : List Str}
  {params : Arguments} {body ea : Expr} {scope : Scope} {t : XK → TE} {p pos : Pos} {j : Nat}
/-- g(x), where x is a lambda that was kept -/
theorem pe_actname {q : Str} (hq : X.env.qual ++ "<lambda>" = q) (hpin : (f, lamO X params body scope pm' c' ctv) ∈ X.pn) (hfr : f ∉ frs X.stack) (hg : Gl X x) (hm : X.mg x = some (.ref g)) (hk : PySem.W.keepIn X.K (.ref g) = true) (lk : X.K.lookup g = some ⟨oc, od, .func (PySem.W.fnOf x x pg bg sg dV kV doc pm an cdv ct), osl⟩)
    (hcg : PySem.W.codeIn X.K cdv x = true) (hb : L2.Binds X.K (PySem.W.fnOf x x pg bg sg dV kV doc pm an cdv ct) [a] []) (Sg : FnScope Ng [a] sg) (hNg : Ng[0]? = some a) (hva : Vis sg a) (hG : LamX.GivesTo X Ng x sg g cdv bg a (X.env.qual ++ "<lambda>") TT)
    (hr : Room (k + 2) X.A) (L : LamX.LamS X.env.scope scope) (hbind : ∀ (q : Str) (cl : List (Str × Addr)) (pm cv ctv : Value), bindArgs (PySem.W.kla_fn "<lambda>" q params body scope cl pm cv ctv) ⟨[], []⟩ = pure [])
    (hbody : ∀ (A : Around) (outer : List Env) (s : Shared) (H : Hp) (E : XK) (f c' : Addr), Room k (A.deeper (LamX.lamEnv X scope s.heap.objs.size f c')) → PE (LamX.lamCx X A outer s H E scope f c') body (t E)) (ha : PE X ea (tVar j))
    (hdb : (x == ("__debug__" : Str)) = false := by decide) (hd : (a == ("__debug__" : Str)) = false := by decide) (hcd : (a == ("__classdict__" : Str)) = false := by decide)
    (he : starEach [ea] X.env = (false, eval ea X.env) :: starEach [] X.env := by rfl) (hpl : (backTo pos (starEach [] X.env)).any (·.1) = false := by rfl) :
    PE X (.Call (.Name x p) [ea] [] pos) (fun σ H Q => σ[j]? = some (some (.ref f)) ∧ H c' = some (LamX.CodeO c' q) ∧ TT (fun E H' Q' => t E σ H' Q') H Q) := by
  refine ⟨fun pins s σ H Q I h => wpAny_Call_Name_kw (ld_glob I hg hm (PySem.W.callWith_K I.ok.mod.kin hk ?_ he hpl) hdb)⟩
  subst hq
  obtain ⟨hσ, hco, hT⟩ := h
  refine thn ((pa_cons ha pa_nil he).run pos pins s σ H (fun vs H1 => vs = [.ref f] ∧ H1 = H) I ⟨_, hσ, rfl, rfl⟩) fun us s1 y => ?_
  obtain ⟨vs, H1, I1, r1, rfl, rfl⟩ := y
  obtain ⟨w, rfl, rw_⟩ := r1.one
  have rw2 : w = Value.ref f := rw_
  subst rw2
  refine ⟨I1.kIn, ?_⟩
  obtain ⟨hf, hfn, _⟩ := I1.pin _ (List.mem_append_left _ hpin)
  have rc := LamX.run_ofS (CX := C8.CX0) (E := C8.E0) (Q := Q) lk hcg Sg hr I1.env0 (hb s1 [Value.ref f] I1.kIn rfl) (show Vals [V.ref f] [Value.ref f] from .cons rfl .nil) rfl (fun hr' => by
    obtain ⟨t', ht', hq'⟩ := hG f c' s1 H1 Q (fun E H' Q' => t E σ H' Q') (fun W pn xe E p1 p2 tk hW => LamX.pe_act I1 L hf hfn hfr (hbind _ _ _ _ _) tk hW hr' (fun A outer s H hr2 => hbody A outer s H E f c' hr2) hNg hva hd hcd) hco hT
    exact ⟨t', ht'.nox, hq'⟩)
  refine wpAny_call (codeAny_mono rc fun r s2 hq => ?_)
  cases r with
  | error e => exact (show False from hq).elim
  | ok fl =>
    cases fl with
    | next => exact (show False from hq).elim
    | brk => exact (show False from hq).elim
    | cont => exact (show False from hq).elim
    | ret u => exact I1.after hq
theorem pe_or2 {X : Cx} {e : Expr} {t u : TE} (h1 : PE X e t) (h2 : PE X e u) : PE X e (fun σ H Q => t σ H Q ∨ u σ H Q) := ⟨fun pins s σ H Q I h => h.elim (fun h => h1.run pins s σ H Q I h) (fun h => h2.run pins s σ H Q I h)⟩
end
end WB
namespace WB
open PySem PySem.Spec PyProof.Rows L2
/-! ### objects: fields, methods, new ones -/
section
variable {X : Cx} (K : PySem.W.Frag) {e o value : Expr} {f : Str} {pos pos' tpos : Pos} {ta tv : TE} {op : Operator} {rd : V → V → Hp → VK → Prop}
theorem pe_fldK (h : X.K = K) (he : PE X e ta) (hb : attributeBase e f X.env (eval e X.env) = eval e X.env := by rfl) : PE X (.Attribute e f pos) (tFld K ta f) := by subst h; exact pe_fld he hb
theorem ps_fldK (h : X.K = K) (ho : PE X o ta) (hv : PE X value tv) (hs : swapsWith value (some (.Attribute o f pos')) pos.line X.env = pure false := by rfl) : PS X (.Assign [.Attribute o f pos'] value pos) (sFld K ta tv f) := by subst h; exact ps_fld ho hv hs
theorem ps_fldaugK (h : X.K = K) (ho : PE X o ta) (hv : PE X value tv) (hop : InOp X op rd) : PS X (.AugAssign (.Attribute o f tpos) op value pos) (sFldAug K ta tv rd f) := by subst h; exact ps_fldaug ho hv hop
def rTupK (K : PySem.W.Frag) : List V → Hp → VK → Prop := fun xs H Q => ∃ p ys, xs = [.ref p] ∧ ((SqL K H p ys ∧ ∀ l, H l = none → Q (.ref l) (upd H l (.tup ys))) ∨ (SqT K H p ys ∧ Q (.ref p) H))
theorem call_tupleK (h : X.K = K) : CallR X (.type "tuple") (rTupK K) := by subst h; exact call_tuple_of
end
/-- a method of the class at C -/
def CalM (CX : CXT) (P : Program) (w : World) (K : PySem.W.Frag) (mg : Str → Option Value) (base : Heap) (k : Nat) (C : Addr) (m : Str) (ps : List Str) (sp : Sp) : Prop :=
  ∃ (f : Addr) (fd : FuncData), Cls K C ∧ Meth K C m f ∧ FnOk P w K mg base CX k f fd ps sp ∧ Binds K fd ps []
theorem CalM.mono {CX : CXT} {P : Program} {w : World} {K : PySem.W.Frag} {mg : Str → Option Value} {base : Heap} {j k : Nat} {C : Addr} {m : Str} {ps : List Str} {sp : Sp} (c : CalM CX P w K mg base j C m ps sp) (h : j ≤ k) : CalM CX P w K mg base k C m ps sp := by
  obtain ⟨f, fd, a, b, d, e⟩ := c
  exact ⟨f, fd, a, b, d.mono h, e⟩
/-- new things of the class at C -/
def CalN (P : Program) (w : World) (K : PySem.W.Frag) (mg : Str → Option Value) (base : Heap) (k : Nat) (nm : Str) (C : Addr) (ps : List Str) (sp : Sp) : Prop :=
  ∃ (f : Addr) (fd : FuncData), Mk K C f ∧ FnOk P w K mg base CX0 k f fd ps sp ∧ mg nm = some (.ref C) ∧ Binds K fd ps []
theorem CalN.mono {P : Program} {w : World} {K : PySem.W.Frag} {mg : Str → Option Value} {base : Heap} {j k : Nat} {nm : Str} {C : Addr} {ps : List Str} {sp : Sp} (c : CalN P w K mg base j nm C ps sp) (h : j ≤ k) : CalN P w K mg base k nm C ps sp := by
  obtain ⟨f, fd, a, b, d, e⟩ := c
  exact ⟨f, fd, a, b.mono h, d, e⟩
section
variable {X : Cx} {k : Nat} {C : Addr} {m nm : Str} {ps : List Str} {sp : Sp} {E : XK} {pos apos p : Pos} {e o : Expr} {es : List Expr} {ta : TE} {t : TA} {pl : Sem Bool}
theorem pe_methC (ho : PE X o ta) (c : CalM CX0 X.prog X.w X.K X.mg X.base k C m ps sp) (hr : Room k X.A) (ha : PA X (e :: es) t) (hs : starEach (e :: es) X.env = (false, eval e X.env) :: starEach es X.env := by rfl) (hpl : (backTo pos (starEach es X.env)).any (·.1) = false := by rfl)
    (hc : eval (.Call (.Attribute o m apos) (e :: es) [] pos) X.env = (do
      let ov ← eval o X.env
      standAt apos.atName
      let (f, first) ← holding [ov] (getMethod ov m pl)
      callWith pos f first (backTo pos (starEach (e :: es) X.env)) (backToKw pos (keywordEach [] X.env))) := by rfl) : PE X (.Call (.Attribute o m apos) (e :: es) [] pos) (tMeth C m sp [] E0 ta t) := by
  obtain ⟨f, fd, a, b, d, g⟩ := c
  exact pe_meth ho a b d hr g .nil pass0 ha hs hpl hc
theorem pe_methC0 (ho : PE X o ta) (c : CalM CX0 X.prog X.w X.K X.mg X.base k C m ps sp) (hr : Room k X.A)
    (hc : eval (.Call (.Attribute o m apos) [] [] pos) X.env = (do
      let ov ← eval o X.env
      standAt apos.atName
      let (f, first) ← holding [ov] (getMethod ov m pl)
      callWith pos f first (backTo pos (starEach [] X.env)) (backToKw pos (keywordEach [] X.env))) := by rfl) : PE X (.Call (.Attribute o m apos) [] [] pos) (tMeth C m sp [] E0 ta tNil) := by
  obtain ⟨f, fd, a, b, d, g⟩ := c
  exact pe_meth0 ho a b d hr g .nil pass0 hc
/-- a method that may let an exception out, where it lets out none -/
theorem pe_methF (ho : PE X o ta) (c : CalM (L2.CX X.prog X.w) X.prog X.w X.K X.mg X.base k C m ps sp) (hr : Room k X.A) (ha : PA X (e :: es) t) (hs : starEach (e :: es) X.env = (false, eval e X.env) :: starEach es X.env := by rfl) (hpl : (backTo pos (starEach es X.env)).any (·.1) = false := by rfl)
    (hc : eval (.Call (.Attribute o m apos) (e :: es) [] pos) X.env = (do
      let ov ← eval o X.env
      standAt apos.atName
      let (f, first) ← holding [ov] (getMethod ov m pl)
      callWith pos f first (backTo pos (starEach (e :: es) X.env)) (backToKw pos (keywordEach [] X.env))) := by rfl) : PE X (.Call (.Attribute o m apos) (e :: es) [] pos) (tMeth C m sp [] E0 ta t) := by
  obtain ⟨f, fd, a, b, d, g⟩ := c
  exact pe_meth ho a b d hr g .nil passL ha hs hpl hc
theorem pe_methP (ho : PE X o ta) (c : CalM (L2.CX X.prog X.w) X.prog X.w X.K X.mg X.base k C m ps sp) (hr : Room k X.A) (hx : Passes (L2.CX X.prog X.w) X E) (ha : PA X (e :: es) t) (hs : starEach (e :: es) X.env = (false, eval e X.env) :: starEach es X.env := by rfl) (hpl : (backTo pos (starEach es X.env)).any (·.1) = false := by rfl)
    (hc : eval (.Call (.Attribute o m apos) (e :: es) [] pos) X.env = (do
      let ov ← eval o X.env
      standAt apos.atName
      let (f, first) ← holding [ov] (getMethod ov m pl)
      callWith pos f first (backTo pos (starEach (e :: es) X.env)) (backToKw pos (keywordEach [] X.env))) := by rfl) : PE X (.Call (.Attribute o m apos) (e :: es) [] pos) (tMeth C m sp [] E ta t) := by
  obtain ⟨f, fd, a, b, d, g⟩ := c
  exact pe_meth ho a b d hr g .nil hx ha hs hpl hc
theorem pe_makeC0 (c : CalN X.prog X.w X.K X.mg X.base k nm C ps sp) (hr : Room (k + 1) X.A) (hg : Gl X nm) (hdb : (nm == ("__debug__" : Str)) = false := by decide) : PE X (.Call (.Name nm p) [] [] pos) (tMake C sp [] E0 tNil) := by
  obtain ⟨f, fd, a, b, d, g⟩ := c
  exact pe_make0 a b hr hg d g .nil pass0 hdb
end
/-! ### heaps that keep their lists -/
/-- lists, tuples and what is held still stay -/
def Lk (H H' : Hp) : Prop := ∀ a o, H a = some o → (∃ xs, o = .lst xs) ∨ (∃ xs, o = .tup xs) ∨ (∃ u v, o = .frz u v) → H' a = some o
section
variable {K : PySem.W.Frag}
theorem lk_l {H H' : Hp} {a : Addr} {xs : List V} (e : Lk H H') (h : SqL K H a xs) : SqL K H' a xs := by
  rcases h with (h | ⟨o, h⟩) | h
  · exact .inl (.inl (e _ _ h (.inl ⟨_, rfl⟩)))
  · exact .inl (.inr ⟨o, e _ _ h (.inr (.inr ⟨_, _, rfl⟩))⟩)
  · exact .inr h
theorem lk_t {H H' : Hp} {a : Addr} {xs : List V} (e : Lk H H') (h : SqT K H a xs) : SqT K H' a xs := by
  rcases h with (h | ⟨o, h⟩) | h
  · exact .inl (.inl (e _ _ h (.inr (.inl ⟨_, rfl⟩))))
  · exact .inl (.inr ⟨o, e _ _ h (.inr (.inr ⟨_, _, rfl⟩))⟩)
  · exact .inr h
mutual
theorem dp_lk {H H' : Hp} (e : Lk H H') : ∀ {d : PyData} {x : V}, Dp K H x d → Dp K H' x d
  | _, _, .non => .non
  | _, _, .bl b => .bl b
  | _, _, .int i => .int i
  | _, _, .str s => .str s
  | _, _, .lst hs ha => .lst (lk_l e hs) (dpa_lk e ha)
  | _, _, .tup hs ha => .tup (lk_t e hs) (dpa_lk e ha)
theorem dpa_lk {H H' : Hp} (e : Lk H H') : ∀ {ds : List PyData} {xs : List V}, DpAll K H xs ds → DpAll K H' xs ds
  | _, _, .nil => .nil
  | _, _, .cons h t => .cons (dp_lk e h) (dpa_lk e t)
end
theorem lk_mv {b : Addr} {H H' : Hp} (m : Mv b H H') (h : ∀ o, H b = some o → ¬ ((∃ xs, o = .lst xs) ∨ (∃ xs, o = .tup xs) ∨ (∃ u v, o = .frz u v))) : Lk H H' := fun a o e k => m a o (fun z => by subst z; exact h o e k) e
theorem lk_same {H H' : Hp} (s : Same H H') : Lk H H' := fun a o e _ => s a o e
end
end WB
namespace WB
open PySem PySem.Spec PyProof.Rows L2
/-! ### things that stand apart in the heap -/
/-- all but what stands at F stays, and nothing vanishes -/
structure MvF (F : List Addr) (H H' : Hp) : Prop where
  kp : ∀ a o, a ∉ F → H a = some o → H' a = some o
  al : ∀ a, H' a = none → H a = none
theorem al_same {H H' : Hp} (s : Same H H') : ∀ a, H' a = none → H a = none := fun _ h => s.free h
theorem al_upd {H H' : Hp} {p : Addr} {o : HO} (s : ∀ a, H' a = none → H a = none) : ∀ a, upd H' p o a = none → H a = none := fun a h => by
  by_cases z : a = p
  · rw [z, upd_same] at h
    cases h
  · rw [upd_ne z] at h
    exact s a h
theorem al_mv {H H' : Hp} {p : Addr} {o : HO} (m : Mv p H H') (e : H' p = some o) : ∀ a, H' a = none → H a = none := fun a h => by
  by_cases z : a = p
  · rw [z, e] at h
    cases h
  · exact m.none z h
section
variable {F : List Addr} {H H' H1 H2 : Hp}
theorem MvF.refl (F : List Addr) (H : Hp) : MvF F H H := ⟨fun _ _ _ h => h, fun _ h => h⟩
theorem MvF.of (s : Same H H') : MvF F H H' := ⟨fun a o _ h => s a o h, al_same s⟩
theorem MvF.mv {p : Addr} {o : HO} (m : Mv p H H') (e : H' p = some o) (hp : p ∈ F) : MvF F H H' := ⟨fun a u n h => m a u (fun z => n (z ▸ hp)) h, al_mv m e⟩
theorem MvF.trans (m : MvF F H H1) (m' : MvF F H1 H2) : MvF F H H2 := ⟨fun a o n h => m'.kp a o n (m.kp a o n h), fun a h => m.al a (m'.al a h)⟩
theorem MvF.upd {p : Addr} {o : HO} (m : MvF F H H') (hp : p ∈ F) : MvF F H (L2.upd H' p o) := ⟨fun a u n h => by rw [upd_ne (fun z : a = p => n (by rw [z]; exact hp))]; exact m.kp a u n h, al_upd m.al⟩
theorem MvF.wide {G : List Addr} (m : MvF F H H') (h : ∀ a ∈ F, a ∈ G) : MvF G H H' := ⟨fun a o n e => m.kp a o (fun z => n (h a z)) e, m.al⟩
/-- where the second one's places are the first one's, or new -/
theorem MvF.trans2 {G : List Addr} (m : MvF F H H1) (m' : MvF G H1 H2) (hg : ∀ a ∈ G, a ∈ F ∨ H a = none) : MvF F H H2 := by
  refine ⟨fun a o n e => m'.kp a o (fun z => ?_) (m.kp a o n e), fun a h => m.al a (m'.al a h)⟩
  rcases hg a z with y | y
  · exact n y
  · rw [y] at e
    cases e
theorem MvF.same (m : MvF F H H') (s : Same H' H1) : MvF F H H1 := m.trans (.of s)
theorem MvF.new (m : MvF F H H') {p : Addr} {o : HO} (n : H' p = none) : MvF F H (L2.upd H' p o) := m.same (same_upd n)
theorem MvF.free (m : MvF F H H') {p : Addr} (h : H' p = none) : H p = none := m.al p h
theorem MvF.toSame (m : MvF [] H H') : Same H H' := fun a o h => m.kp a o List.not_mem_nil h
end
/-- no table of code, no thing of the machine's own -/
def plain : HO → Prop
  | .tbl _ => False
  | .ext _ => False
  | _ => True
structure Th where
  ft : List Addr
  P : Hp → Prop
  loc : ∀ H H' : Hp, (∀ a ∈ ft, ∀ o, H a = some o → H' a = some o) → P H → P H'
  al : ∀ H, P H → ∀ a ∈ ft, ∃ o, H a = some o ∧ plain o
/-- these things stand apart, and the tables of code are as they were -/
structure Hs (T : List (Addr × Str)) (Ts : List Th) (H : Hp) : Prop where
  all : ∀ (i : Nat) (T : Th), Ts[i]? = some T → T.P H
  sep : ∀ (i j : Nat) (x y : Th), i ≠ j → Ts[i]? = some x → Ts[j]? = some y → ∀ a ∈ x.ft, a ∉ y.ft
  tab : LamX.Tabs T H
theorem Th.live (T : Th) {H : Hp} (h : T.P H) {a : Addr} (ha : a ∈ T.ft) : H a ≠ none := by
  obtain ⟨o, e, _⟩ := T.al H h a ha
  rw [e]
  exact fun z => nomatch z
theorem tabs_keep {T : List (Addr × Str)} {H H' : Hp} (t : LamX.Tabs T H) (h : ∀ a o, H a = some o → ¬ plain o → H' a = some o) : LamX.Tabs T H' := fun p hp => by
  obtain ⟨ps, h1, h2, h3⟩ := t p hp
  refine ⟨ps, h _ _ h1 (fun z => z), h2, fun pos cv hc => ?_⟩
  obtain ⟨c, e1, e2⟩ := h3 pos cv hc
  exact ⟨c, e1, h _ _ e2 (fun z => z)⟩
section
variable {T0 : List (Addr × Str)} {Ts Ts' : List Th} {T T' N : Th} {H H' : Hp}
theorem Hs.nil (t : LamX.Tabs T0 H) : Hs T0 [] H := ⟨fun i T h => (by cases h), fun i j x y _ h => (by cases h), t⟩
theorem Hs.nil0 : Hs [] [] H := .nil (fun p hp => absurd hp List.not_mem_nil)
theorem Hs.get (h : Hs T0 Ts H) (i : Nat) (hi : Ts[i]? = some T) : T.P H := h.all i T hi
theorem Hs.same (h : Hs T0 Ts H) (s : Same H H') : Hs T0 Ts H' := ⟨fun i T hi => T.loc H H' (fun a _ o e => s a o e) (h.all i T hi), h.sep, h.tab.ext s⟩
/-- a lambda was made -/
theorem Hs.extN (h : Hs T0 Ts H) (e : LamX.ExtN H H') (t : LamX.Tabs T0 H') : Hs T0 Ts H' := ⟨fun i T hi => T.loc H H' (fun a ha o q => e a o q (fun ps z => by
  obtain ⟨o', e1, e2⟩ := T.al H (h.all i T hi) a ha
  rw [e1] at q
  cases q
  rw [z] at e2
  exact e2)) (h.all i T hi), h.sep, t⟩
theorem Hs.ne (h : Hs T0 Ts H) (i j : Nat) {x y : Th} (hi : Ts[i]? = some x) (hj : Ts[j]? = some y) {a b : Addr} (ha : a ∈ x.ft) (hb : b ∈ y.ft) (n : i ≠ j := by decide) : a ≠ b := fun z => h.sep i j x y n hi hj a ha (z ▸ hb)
theorem Hs.keep (h : Hs T0 Ts H) {i j : Nat} {x : Th} {F : List Addr} (hi : Ts[i]? = some T) (hj : Ts[j]? = some x) (n : j ≠ i) (m : MvF F H H') (hF : ∀ a ∈ F, a ∈ T.ft ∨ H a = none) : x.P H' := by
  refine x.loc H H' (fun a ha o e => m.kp a o (fun z => ?_) e) (h.all j x hj)
  rcases hF a z with y | y
  · exact h.sep j i x T n hj hi a ha y
  · rw [y] at e
    cases e
theorem Hs.op {F : List Addr} (h : Hs T0 Ts H) (i : Nat) (hi : Ts[i]? = some T) (m : MvF F H H') (hF : ∀ a ∈ F, a ∈ T.ft ∨ H a = none) (hp : T'.P H') (hf : ∀ a ∈ T'.ft, a ∈ T.ft ∨ H a = none) : Hs T0 (Ts.set i T') H' := by
  have hil : i < Ts.length := (List.getElem?_eq_some_iff.mp hi).1
  have new : ∀ (j : Nat) (y : Th), j ≠ i → Ts[j]? = some y → ∀ a ∈ T'.ft, a ∉ y.ft := fun j y n hj a ha z => by
    rcases hf a ha with q | q
    · exact h.sep i j T y n.symm hi hj a q z
    · exact y.live (h.all j y hj) z q
  refine ⟨fun j x hj => ?_, fun j k x y n hj hk => ?_, tabs_keep h.tab fun a o e np => m.kp a o (fun z => ?_) e⟩
  · rw [List.getElem?_set] at hj
    by_cases z : i = j
    · rw [if_pos z, if_pos (z ▸ hil)] at hj
      cases hj
      exact hp
    · rw [if_neg z] at hj
      exact h.keep hi hj (fun q => z q.symm) m hF
  · rw [List.getElem?_set] at hj hk
    by_cases z : i = j
    · rw [if_pos z, if_pos (z ▸ hil)] at hj
      rw [if_neg (fun q => n (z.symm.trans q))] at hk
      cases hj
      exact new k y (fun q => n (z.symm.trans q.symm)) hk
    · rw [if_neg z] at hj
      by_cases z2 : i = k
      · rw [if_pos z2, if_pos (z2 ▸ hil)] at hk
        cases hk
        exact fun a ha hb => new j x (fun q => z q.symm) hj a hb ha
      · rw [if_neg z2] at hk
        exact h.sep j k x y n hj hk
  · rcases hF a z with y | y
    · obtain ⟨o', e1, e2⟩ := T.al H (h.all i T hi) a y
      rw [e1] at e
      cases e
      exact np e2
    · rw [y] at e
      cases e
theorem Hs.cons (h : Hs T0 Ts H) (hp : T.P H) (hf : ∀ (j : Nat) (y : Th), Ts[j]? = some y → ∀ a ∈ T.ft, a ∉ y.ft) : Hs T0 (T :: Ts) H := by
  refine ⟨fun j x hj => ?_, fun j k x y n hj hk => ?_, h.tab⟩
  · cases j with
    | zero => cases hj; exact hp
    | succ j => exact h.all j x hj
  · cases j with
    | zero =>
      cases hj
      cases k with
      | zero => exact absurd rfl n
      | succ k => exact hf k y hk
    | succ j =>
      cases k with
      | zero =>
        cases hk
        exact fun a ha hb => hf j x hj a hb ha
      | succ k => exact h.sep j k x y (fun q => n (congrArg (· + 1) q)) hj hk
theorem Hs.new (h : Hs T0 Ts H) (s : Same H H') (hp : T.P H') (hf : ∀ a ∈ T.ft, H a = none) : Hs T0 (T :: Ts) H' :=
  (h.same s).cons hp fun j y hj a ha hb => y.live (h.all j y hj) hb (hf a ha)
/-- a thing changes, and a new one comes -/
theorem Hs.opNew {F : List Addr} (h : Hs T0 Ts H) (i : Nat) (hi : Ts[i]? = some T) (m : MvF F H H') (hF : ∀ a ∈ F, a ∈ T.ft ∨ H a = none) (hp : T'.P H') (hf : ∀ a ∈ T'.ft, a ∈ T.ft ∨ H a = none) (hn : N.P H') (hnf : ∀ a ∈ N.ft, H a = none ∧ a ∉ T'.ft) : Hs T0 (N :: Ts.set i T') H' := by
  refine (h.op i hi m hF hp hf).cons hn fun j y hj a ha hb => ?_
  rw [List.getElem?_set] at hj
  by_cases z : i = j
  · rw [if_pos z, if_pos (z ▸ (List.getElem?_eq_some_iff.mp hi).1)] at hj
    cases hj
    exact (hnf a ha).2 hb
  · rw [if_neg z] at hj
    exact y.live (h.all j y hj) hb (hnf a ha).1
/-- these places of the list, in this order -/
def pickTs (Ts : List Th) : List Nat → List Th
  | [] => []
  | i :: r => match Ts[i]? with
    | some x => x :: pickTs Ts r
    | none => pickTs Ts r
theorem mem_pick : ∀ {is : List Nat} {k : Nat} {x : Th}, (pickTs Ts is)[k]? = some x → ∃ i ∈ is, Ts[i]? = some x
  | [], k, x, h => by cases h
  | i :: r, k, x, h => by
    unfold pickTs at h
    cases e : Ts[i]? with
    | none =>
      rw [e] at h
      obtain ⟨j, hj, q⟩ := mem_pick h
      exact ⟨j, .tail _ hj, q⟩
    | some y =>
      rw [e] at h
      cases k with
      | zero => cases h; exact ⟨i, .head _, e⟩
      | succ k =>
        obtain ⟨j, hj, q⟩ := mem_pick (k := k) h
        exact ⟨j, .tail _ hj, q⟩
theorem Hs.sel (h : Hs T0 Ts H) : ∀ (is : List Nat), is.Nodup → Hs T0 (pickTs Ts is) H
  | [], _ => .nil h.tab
  | i :: r, hn => by
    have hn := List.nodup_cons.mp hn
    have t := h.sel r hn.2
    unfold pickTs
    cases e : Ts[i]? with
    | none => exact t
    | some x =>
      refine t.cons (h.all i x e) fun j y hj => ?_
      obtain ⟨k, hk, q⟩ := mem_pick hj
      exact h.sep i k x y (fun z => hn.1 (z ▸ hk)) e q
theorem Hs.tail {x : Th} (h : Hs T0 (x :: Ts) H) : Hs T0 Ts H := ⟨fun i T hi => h.all (i + 1) T hi, fun i j x y n hi hj => h.sep (i + 1) (j + 1) x y (by omega) hi hj, h.tab⟩
theorem Hs.head {x : Th} (h : Hs T0 (x :: Ts) H) : x.P H := h.all 0 x rfl
theorem Hs.apart {x y : Th} (h : Hs T0 (x :: Ts) H) (hy : y ∈ Ts) : ∀ a ∈ x.ft, a ∉ y.ft := by
  obtain ⟨j, hj⟩ := List.getElem?_of_mem hy
  exact h.sep 0 (j + 1) x y (by omega) rfl hj
theorem Hs.swap {x y : Th} (h : Hs T0 (x :: y :: Ts) H) : Hs T0 (y :: x :: Ts) H :=
  (h.tail.tail.cons h.head fun j z hj => h.apart (.tail _ (List.mem_of_getElem? hj))).cons h.tail.head fun j z hj a ha hb => by
    rcases List.mem_cons.mp (List.mem_of_getElem? hj) with rfl | hm
    · exact h.apart (.head _) a hb ha
    · exact h.tail.apart hm a ha hb
theorem Hs.perm (p : Ts.Perm Ts') : ∀ {H : Hp}, Hs T0 Ts H → Hs T0 Ts' H := by
  induction p with
  | nil => exact fun h => h
  | cons x q ih => exact fun h => (ih h.tail).cons h.head fun j y hj => h.apart (q.mem_iff.mpr (List.mem_of_getElem? hj))
  | swap x y l => exact fun h => h.swap
  | trans _ _ ih1 ih2 => exact fun h => ih2 (ih1 h)
/-- two things seen as one -/
theorem Hs.merge {A B C : Th} (h : Hs T0 (A :: B :: Ts) H) (hp : C.P H) (hf : ∀ a ∈ C.ft, a ∈ A.ft ∨ a ∈ B.ft) : Hs T0 (C :: Ts) H :=
  h.tail.tail.cons hp fun j y hj a ha hb => (hf a ha).elim (fun z => h.apart (.tail _ (List.mem_of_getElem? hj)) a z hb) (fun z => h.tail.apart (List.mem_of_getElem? hj) a z hb)
theorem Hs.drop1 {x y : Th} (h : Hs T0 (x :: y :: Ts) H) : Hs T0 (x :: Ts) H := h.swap.tail
theorem Hs.drop2 {x y z : Th} (h : Hs T0 (x :: y :: z :: Ts) H) : Hs T0 (x :: y :: Ts) H := h.tail.drop1.cons h.head fun j u hj => by
  rcases List.mem_cons.mp (List.mem_of_getElem? hj) with rfl | hm
  · exact h.apart (.head _)
  · exact h.apart (.tail _ (.tail _ hm))
theorem Hs.drop3 {x y z u : Th} (h : Hs T0 (x :: y :: z :: u :: Ts) H) : Hs T0 (x :: y :: z :: Ts) H := h.tail.drop2.cons h.head fun j v hj => by
  rcases List.mem_cons.mp (List.mem_of_getElem? hj) with rfl | hm
  · exact h.apart (.head _)
  rcases List.mem_cons.mp hm with rfl | hm
  · exact h.apart (.tail _ (.head _))
  · exact h.apart (.tail _ (.tail _ (.tail _ hm)))
end
/-! ### the commonest things -/
/-- what stands at a -/
def tO (a : Addr) (o : HO) : Th := ⟨[a], fun H => H a = some o ∧ plain o, fun H H' k h => ⟨k a (.head _) o h.1, h.2⟩, fun H h b hb => by rw [List.mem_singleton.mp hb]; exact ⟨o, h⟩⟩
abbrev tL (a : Addr) (xs : List V) : Th := tO a (.lst xs)
theorem Bag.al {b : Addr × Addr} {H : Hp} (g : Bag b H) : H b.1 ≠ none ∧ H b.2 ≠ none := by
  obtain ⟨ns, i, r, x, c, h1, h2, _⟩ := g
  exact ⟨(by rw [h1]; exact fun z => nomatch z), (by rw [h2]; exact fun z => nomatch z)⟩
def tB (b : Addr × Addr) : Th := ⟨[b.1, b.2], Bag b, fun H H' k h => by
  obtain ⟨ns, i, r, x, c, h1, h2, h3⟩ := h
  exact ⟨ns, i, r, x, c, k _ (.head _) _ h1, k _ (.tail _ (.head _)) _ h2, h3⟩, fun H h a ha => by
  obtain ⟨ns, i, r, x, c, h1, h2, h3⟩ := h
  rcases List.mem_cons.mp ha with rfl | ha
  · exact ⟨_, h1, trivial⟩
  · rw [List.mem_singleton.mp ha]
    exact ⟨_, h2, trivial⟩⟩
theorem in1 {a p : Addr} (h : a ∈ [p]) : a = p := List.mem_singleton.mp h
section
variable {T0 : List (Addr × Str)} {b : Addr × Addr} {Ts : List Th} {H H' : Hp} {p : Addr} {o o' : HO}
theorem Hs.bag (h : Hs T0 (tB b :: Ts) H) : Bag b H := h.get 0 rfl
theorem mvf_bag (m : Mv b.1 H H') (g : Bag b H') : MvF [b.1, b.2] H H' := by
  obtain ⟨ns, i, r, x, c, h1, h2, h3⟩ := g
  exact .mv m h1 (.head _)
theorem Hs.mv (h : Hs T0 (tB b :: Ts) H) (m : Mv b.1 H H') (g : Bag b H') : Hs T0 (tB b :: Ts) H' := h.op (T := tB b) (T' := tB b) 0 rfl (mvf_bag m g) (fun a ha => .inl ha) g (fun a ha => .inl ha)
/-- a draw that tells a new thing -/
theorem Hs.newM (h : Hs T0 (tB b :: Ts) H) (m : Mv b.1 H H') (g : Bag b H') (n : H p = none) (e : H' p = some o) (pl : plain o := by exact trivial) : Hs T0 (tB b :: tO p o :: Ts) H' := by
  have h2 : Hs T0 (tO p o :: tB b :: Ts) H' := (h.opNew (T := tB b) (T' := tB b) (N := tO p o) 0 rfl (mvf_bag m g) (fun a ha => .inl ha) g (fun a ha => .inl ha) ⟨e, pl⟩ (fun a ha => by
    rw [in1 ha]
    refine ⟨n, fun z => ?_⟩
    rcases List.mem_cons.mp z with z | z
    · exact (h.bag.al.1) (z ▸ n)
    · exact (h.bag.al.2) (in1 z ▸ n)))
  exact h2.swap
/-- a new thing at the head -/
theorem Hs.newH (h : Hs T0 Ts H) (s : Same H H') (n : H p = none) (e : H' p = some o) (pl : plain o := by exact trivial) : Hs T0 (tO p o :: Ts) H' := h.new (T := tO p o) s ⟨e, pl⟩ (fun a ha => by rw [in1 ha]; exact n)
theorem Hs.newHU (h : Hs T0 Ts H) (n : H p = none) (pl : plain o := by exact trivial) : Hs T0 (tO p o :: Ts) (upd H p o) := h.newH (same_upd n) n upd_same pl
/-- a new thing, put behind the bag -/
theorem Hs.newB (h : Hs T0 (tB b :: Ts) H) (s : Same H H') (n : H p = none) (e : H' p = some o) (pl : plain o := by exact trivial) : Hs T0 (tB b :: tO p o :: Ts) H' := (h.newH s n e pl).swap
theorem Hs.newU (h : Hs T0 (tB b :: Ts) H) (n : H p = none) (pl : plain o := by exact trivial) : Hs T0 (tB b :: tO p o :: Ts) (upd H p o) := h.newB (same_upd n) n upd_same pl
theorem Hs.put (h : Hs T0 Ts H) (i : Nat) (hi : Ts[i]? = some (tO p o)) (pl : plain o' := by exact trivial) : Hs T0 (Ts.set i (tO p o')) (upd H p o') :=
  h.op i hi (F := [p]) ((MvF.refl [p] H).upd (.head _)) (fun a ha => .inl ha) ⟨upd_same, pl⟩ (fun a ha => .inl ha)
theorem Hs.at (h : Hs T0 Ts H) (i : Nat) (hi : Ts[i]? = some (tO p o)) : H p = some o := (h.get i hi).1
end
/-! ### groups: several things seen as one -/
theorem sep_flat {Ts : List Th} {H : Hp} (h : Hs [] Ts H) : ∀ a ∈ Ts.flatMap (·.ft), ∃ o, H a = some o ∧ plain o := fun a ha => by
  obtain ⟨T, hT, ha⟩ := List.mem_flatMap.mp ha
  obtain ⟨i, hi⟩ := List.getElem?_of_mem hT
  exact T.al H (h.all i T hi) a ha
def tG (Ts : List Th) : Th := ⟨Ts.flatMap (·.ft), fun H => Hs [] Ts H, fun H H' k h => ⟨fun i T hi => T.loc H H' (fun a ha => k a (List.mem_flatMap.mpr ⟨T, List.mem_of_getElem? hi, ha⟩)) (h.all i T hi), h.sep, fun p hp => absurd hp List.not_mem_nil⟩, fun H h a ha => sep_flat h a ha⟩
section
variable {T0 : List (Addr × Str)} {Ts Gs : List Th} {H : Hp}
theorem Hs.tabs0 (h : Hs T0 Ts H) : Hs [] Ts H := ⟨h.all, h.sep, fun p hp => absurd hp List.not_mem_nil⟩
theorem Hs.app : ∀ {As : List Th}, Hs [] As H → Hs T0 Ts H → (∀ x ∈ As, ∀ y ∈ Ts, ∀ a ∈ x.ft, a ∉ y.ft) → Hs T0 (As ++ Ts) H
  | [], _, h, _ => h
  | A :: As, g, h, d => (Hs.app g.tail h (fun x hx => d x (.tail _ hx))).cons g.head fun j y hj a ha hb => by
    rcases List.mem_append.mp (List.mem_of_getElem? hj) with hm | hm
    · exact g.apart hm a ha hb
    · exact d A (.head _) y hm a ha hb
theorem Hs.left : ∀ {As : List Th}, Hs T0 (As ++ Ts) H → Hs [] As H
  | [], _ => .nil (fun p hp => absurd hp List.not_mem_nil)
  | A :: As, h => (Hs.left (As := As) h.tail).cons h.head fun j y hj => h.apart (List.mem_append_left _ (List.mem_of_getElem? hj))
theorem Hs.right : ∀ {As : List Th}, Hs T0 (As ++ Ts) H → Hs T0 Ts H
  | [], h => h
  | _ :: As, h => Hs.right (As := As) h.tail
theorem Hs.cross : ∀ {As : List Th}, Hs T0 (As ++ Ts) H → ∀ x ∈ As, ∀ y ∈ Ts, ∀ a ∈ x.ft, a ∉ y.ft
  | A :: As, h, x, hx, y, hy => by
    rcases List.mem_cons.mp hx with rfl | hx
    · exact h.apart (List.mem_append_right _ hy)
    · exact Hs.cross (As := As) h.tail x hx y hy
theorem Hs.ungroup (h : Hs T0 (tG Ts :: Gs) H) : Hs T0 (Ts ++ Gs) H := Hs.app h.head h.tail (fun x hx y hy a ha hb => h.apart hy a (List.mem_flatMap.mpr ⟨x, hx, ha⟩) hb)
theorem Hs.group (h : Hs T0 (Ts ++ Gs) H) : Hs T0 (tG Ts :: Gs) H := h.right.cons h.left fun j y hj a ha hb => by
  obtain ⟨x, hx, ha⟩ := List.mem_flatMap.mp ha
  exact h.cross x hx y (List.mem_of_getElem? hj) a ha hb
end
section
variable {α : Type} {T0 : List (Addr × Str)} {As : List Th} {Y : List α} {f : α → Th} {w : Nat} {y y' : α} {H : Hp}
theorem perm_at : ∀ {Y : List α} {w : Nat} {y : α}, Y[w]? = some y → (y :: Y.eraseIdx w).Perm Y
  | x :: Y, 0, y, h => by cases h; exact .refl _
  | x :: Y, w + 1, y, h => (List.Perm.swap x y _).trans (.cons x (perm_at (Y := Y) (w := w) h))
theorem erase_set : ∀ (Y : List α) (w : Nat) (y : α), (Y.set w y).eraseIdx w = Y.eraseIdx w
  | [], _, _ => rfl
  | x :: Y, 0, y => rfl
  | x :: Y, w + 1, y => congrArg (x :: ·) (erase_set Y w y)
/-- the w-th one to the head -/
theorem Hs.front (h : Hs T0 (As ++ Y.map f) H) (hy : Y[w]? = some y) : Hs T0 (f y :: (As ++ (Y.eraseIdx w).map f)) H := by
  refine h.perm (List.Perm.trans ?_ List.perm_middle)
  exact .append_left As ((perm_at hy).map f).symm
theorem Hs.back (h : Hs T0 (f y' :: (As ++ (Y.eraseIdx w).map f)) H) (hw : w < Y.length) : Hs T0 (As ++ (Y.set w y').map f) H := by
  have hy : (Y.set w y')[w]? = some y' := by rw [List.getElem?_set, if_pos rfl, if_pos hw]
  have := perm_at hy
  rw [erase_set] at this
  refine h.perm (List.Perm.trans List.perm_middle.symm ?_)
  exact .append_left As (this.map f)
end
end WB
namespace WB
open PySem PySem.Spec PyProof.Rows L2
section
variable {X : Cx} (K : PySem.W.Frag)
theorem cr_sumK (h : X.K = K) (hc : X.calm = true) : CallR X (.builtin "sum") (rSum K) := by subst h; exact cr_sum hc
theorem cr_minK (h : X.K = K) (hc : X.calm = true) : CallR X (.builtin "min") (rMin K) := by subst h; exact cr_min hc
theorem cr_maxK (h : X.K = K) (hc : X.calm = true) : CallR X (.builtin "max") (rMax K) := by subst h; exact cr_max hc
end
/-! ### while, by an invariant and a measure -/
def wN (Pv : L2.St → Hp → Prop) (μ : L2.St → Hp → Nat) (m : Nat) : L2.St → Hp → Prop := fun σ H => Pv σ H ∧ μ σ H < m
theorem wN_ok {Pv : L2.St → Hp → Prop} {μ : L2.St → Hp → Nat} {m : Nat} : ∀ σ' H', wN Pv μ m σ' H' → ∃ m', m' < m ∧ m' = μ σ' H' ∧ Pv σ' H' := fun _ _ h => ⟨_, h.2, rfl, h.1⟩
theorem while_w {c : TT} {tb : TS} {D : Ends} {σ : L2.St} {H : Hp} (Pv : L2.St → Hp → Prop) (μ : L2.St → Hp → Nat) (h0 : Pv σ H)
    (hs : ∀ σ H, Pv σ H → c σ H fun b H1 => if b = true then ∃ N : L2.St → Hp → Prop, (∀ σ' H', N σ' H' → ∃ m', m' < μ σ H ∧ m' = μ σ' H' ∧ Pv σ' H') ∧ tb { D with nx := N, ct := N, bk := D.nx } σ H1 else D.nx σ H1) : tWhile c tb D σ H := by
  refine ⟨fun m σ H => m = μ σ H ∧ Pv σ H, ⟨_, rfl, h0⟩, ?_⟩
  rintro m σ H ⟨rfl, p⟩
  exact hs σ H p
/-! ### defs with keyword-only parameters: n written by place, keywords named ks; gV puts them in the parameters' order -/
def CalW (P : Program) (w : World) (K : PySem.W.Frag) (mg : Str → Option Value) (base : Heap) (k : Nat) (nm : Str) (ps : List Str) (n : Nat) (ks : List Str) (gV : List V → List V → List V) (sp : Sp) : Prop :=
  ∃ (f : Addr) (fd : FuncData) (g : List Value → List Value → List Value), FnOk P w K mg base (L2.CX P w) k f fd ps sp ∧ mg nm = some (.ref f) ∧ PySem.W.keepIn K (.ref f) = true ∧ KBn K fd ps n ks g gV
theorem CalW.mono {P : Program} {w : World} {K : PySem.W.Frag} {mg : Str → Option Value} {base : Heap} {j k n : Nat} {nm : Str} {ps ks : List Str} {gV : List V → List V → List V} {sp : Sp} (c : CalW P w K mg base j nm ps n ks gV sp) (h : j ≤ k) : CalW P w K mg base k nm ps n ks gV sp := by
  obtain ⟨f, fd, g, a, b, d, e⟩ := c
  exact ⟨f, fd, g, a.mono h, b, d, e⟩
/-- with the keyword-only ones left out: dvs their values -/
def CalD (P : Program) (w : World) (K : PySem.W.Frag) (mg : Str → Option Value) (base : Heap) (k : Nat) (nm : Str) (ps : List Str) (dvs : List V) (sp : Sp) : Prop :=
  ∃ (f : Addr) (fd : FuncData) (ds : List Value), FnOk P w K mg base (L2.CX P w) k f fd ps sp ∧ mg nm = some (.ref f) ∧ PySem.W.keepIn K (.ref f) = true ∧ Binds K fd ps ds ∧ Vals dvs ds
theorem CalD.mono {P : Program} {w : World} {K : PySem.W.Frag} {mg : Str → Option Value} {base : Heap} {j k : Nat} {nm : Str} {ps : List Str} {dvs : List V} {sp : Sp} (c : CalD P w K mg base j nm ps dvs sp) (h : j ≤ k) : CalD P w K mg base k nm ps dvs sp := by
  obtain ⟨f, fd, g, a, b, d, e⟩ := c
  exact ⟨f, fd, g, a.mono h, b, d, e⟩
/-- new things of the class at C, by keywords -/
def CalNW (P : Program) (w : World) (K : PySem.W.Frag) (mg : Str → Option Value) (base : Heap) (k : Nat) (nm : Str) (C : Addr) (ps ks : List Str) (gV : List V → List V → List V) (sp : Sp) : Prop :=
  ∃ (f : Addr) (fd : FuncData) (g : List Value → List Value → List Value), Mk K C f ∧ FnOk P w K mg base (L2.CX P w) k f fd ps sp ∧ mg nm = some (.ref C) ∧ KBn K fd ps 1 ks g gV
theorem CalNW.mono {P : Program} {w : World} {K : PySem.W.Frag} {mg : Str → Option Value} {base : Heap} {j k : Nat} {nm : Str} {C : Addr} {ps ks : List Str} {gV : List V → List V → List V} {sp : Sp} (c : CalNW P w K mg base j nm C ps ks gV sp) (h : j ≤ k) : CalNW P w K mg base k nm C ps ks gV sp := by
  obtain ⟨f, fd, g, a, b, d, e⟩ := c
  exact ⟨f, fd, g, a, b.mono h, d, e⟩
/-- and with the keyword-only ones left out -/
def CalND (P : Program) (w : World) (K : PySem.W.Frag) (mg : Str → Option Value) (base : Heap) (k : Nat) (nm : Str) (C : Addr) (ps : List Str) (dvs : List V) (sp : Sp) : Prop :=
  ∃ (f : Addr) (fd : FuncData) (ds : List Value), Mk K C f ∧ FnOk P w K mg base (L2.CX P w) k f fd ps sp ∧ mg nm = some (.ref C) ∧ Binds K fd ps ds ∧ Vals dvs ds
theorem CalND.mono {P : Program} {w : World} {K : PySem.W.Frag} {mg : Str → Option Value} {base : Heap} {j k : Nat} {nm : Str} {C : Addr} {ps : List Str} {dvs : List V} {sp : Sp} (c : CalND P w K mg base j nm C ps dvs sp) (h : j ≤ k) : CalND P w K mg base k nm C ps dvs sp := by
  obtain ⟨f, fd, g, a, b, d, e⟩ := c
  exact ⟨f, fd, g, a, b.mono h, d, e⟩
section
variable {X : Cx} {k n : Nat} {C : Addr} {ps ks : List Str} {sp : Sp} {E : XK} {nm : Str} {p pos : Pos} {e : Expr} {es : List Expr} {kws : List Keyword} {t tk : TA} {gV : List V → List V → List V} {dvs : List V}
theorem pe_callW (c : CalW X.prog X.w X.K X.mg X.base k nm ps n ks gV sp) (hr : Room k X.A) (hx : Passes (L2.CX X.prog X.w) X E) (hg : Gl X nm) (ha : PA X (e :: es) t) (hkw : PK X kws tk)
    (hall : (backToKw pos (keywordEach kws X.env)).all (·.1.isSome) = true := by rfl) (hks : (backToKw pos (keywordEach kws X.env)).filterMap (·.1) = ks := by rfl)
    (hdb : (nm == ("__debug__" : Str)) = false := by decide) (he : starEach (e :: es) X.env = (false, eval e X.env) :: starEach es X.env := by rfl)
    (hpl : ((backTo pos (starEach (e :: es) X.env)).any (·.1) || (backToKw pos (keywordEach kws X.env)).any (·.1.isNone)) = false := by rfl) :
    PE X (.Call (.Name nm p) (e :: es) kws pos) (tCallN n ks.length sp gV E t tk) := by
  obtain ⟨f, fd, g, a, b, d, q⟩ := c
  exact pe_callN a hr hg b d q hx ha hkw hall hks hdb he hpl
theorem pe_callWF (c : CalW X.prog X.w X.K X.mg X.base k nm ps n ks gV sp) (hr : Room k X.A) (hg : Gl X nm) (ha : PA X (e :: es) t) (hkw : PK X kws tk)
    (hall : (backToKw pos (keywordEach kws X.env)).all (·.1.isSome) = true := by rfl) (hks : (backToKw pos (keywordEach kws X.env)).filterMap (·.1) = ks := by rfl)
    (hdb : (nm == ("__debug__" : Str)) = false := by decide) (he : starEach (e :: es) X.env = (false, eval e X.env) :: starEach es X.env := by rfl)
    (hpl : ((backTo pos (starEach (e :: es) X.env)).any (·.1) || (backToKw pos (keywordEach kws X.env)).any (·.1.isNone)) = false := by rfl) :
    PE X (.Call (.Name nm p) (e :: es) kws pos) (tCallN n ks.length sp gV E0 t tk) := pe_callW c hr passL hg ha hkw hall hks hdb he hpl
/-- keywords alone -/
theorem pe_callW0 (c : CalW X.prog X.w X.K X.mg X.base k nm ps 0 ks gV sp) (hr : Room k X.A) (hx : Passes (L2.CX X.prog X.w) X E) (hg : Gl X nm) (hkw : PK X kws tk)
    (hall : (backToKw pos (keywordEach kws X.env)).all (·.1.isSome) = true := by rfl) (hks : (backToKw pos (keywordEach kws X.env)).filterMap (·.1) = ks := by rfl) (hdb : (nm == ("__debug__" : Str)) = false := by decide)
    (hpl : ((backTo pos (starEach [] X.env)).any (·.1) || (backToKw pos (keywordEach kws X.env)).any (·.1.isNone)) = false := by rfl) :
    PE X (.Call (.Name nm p) [] kws pos) (tCallN 0 ks.length sp gV E tNil tk) := by
  obtain ⟨f, fd, g, a, b, d, hb⟩ := c
  refine ⟨fun pins s σ H Q I h => wpAny_Call_Name_kw (ld_glob I hg b ?_ hdb)⟩
  refine PySem.W.callWith_KW0 (I.ok.mod.kin) d hall (thn (hkw.run pos pins s σ H _ I h) fun ws s2 x => ?_) hpl
  obtain ⟨zs, H2, I2, rz, l1, l2, q2⟩ := x
  refine ⟨I2.kIn, ?_⟩
  rw [hks]
  exact run_fnN (us := []) (vs := []) a hr hb hx I2 .nil rz rfl l2 q2
theorem pe_callW0F (c : CalW X.prog X.w X.K X.mg X.base k nm ps 0 ks gV sp) (hr : Room k X.A) (hg : Gl X nm) (hkw : PK X kws tk)
    (hall : (backToKw pos (keywordEach kws X.env)).all (·.1.isSome) = true := by rfl) (hks : (backToKw pos (keywordEach kws X.env)).filterMap (·.1) = ks := by rfl) (hdb : (nm == ("__debug__" : Str)) = false := by decide)
    (hpl : ((backTo pos (starEach [] X.env)).any (·.1) || (backToKw pos (keywordEach kws X.env)).any (·.1.isNone)) = false := by rfl) :
    PE X (.Call (.Name nm p) [] kws pos) (tCallN 0 ks.length sp gV E0 tNil tk) := pe_callW0 c hr passL hg hkw hall hks hdb hpl
/-- the keyword-only ones left out -/
theorem pe_callD (c : CalD X.prog X.w X.K X.mg X.base k nm ps dvs sp) (hr : Room k X.A) (hx : Passes (L2.CX X.prog X.w) X E) (hg : Gl X nm) (ha : PA X (e :: es) t) (hdb : (nm == ("__debug__" : Str)) = false := by decide)
    (he : starEach (e :: es) X.env = (false, eval e X.env) :: starEach es X.env := by rfl) (hpl : (backTo pos (starEach es X.env)).any (·.1) = false := by rfl) :
    PE X (.Call (.Name nm p) (e :: es) [] pos) (tCall sp dvs E t) := by
  obtain ⟨f, fd, ds, a, b, d, q, v⟩ := c
  exact pe_call a hr hg b d q v hx ha hdb he hpl
theorem pe_callDF (c : CalD X.prog X.w X.K X.mg X.base k nm ps dvs sp) (hr : Room k X.A) (hg : Gl X nm) (ha : PA X (e :: es) t) (hdb : (nm == ("__debug__" : Str)) = false := by decide)
    (he : starEach (e :: es) X.env = (false, eval e X.env) :: starEach es X.env := by rfl) (hpl : (backTo pos (starEach es X.env)).any (·.1) = false := by rfl) :
    PE X (.Call (.Name nm p) (e :: es) [] pos) (tCall sp dvs E0 t) := pe_callD c hr passL hg ha hdb he hpl
theorem pe_callD0F (c : CalD X.prog X.w X.K X.mg X.base k nm ps dvs sp) (hr : Room k X.A) (hg : Gl X nm) (hdb : (nm == ("__debug__" : Str)) = false := by decide) :
    PE X (.Call (.Name nm p) [] [] pos) (tCall sp dvs E0 tNil) := by
  obtain ⟨f, fd, ds, a, b, d, q, v⟩ := c
  exact pe_call0 a hr hg b d q v passL hdb
theorem pe_makeW (c : CalNW X.prog X.w X.K X.mg X.base k nm C ps ks gV sp) (hr : Room (k + 1) X.A) (hx : Passes (L2.CX X.prog X.w) X E) (hg : Gl X nm) (hkw : PK X kws tk)
    (hall : (backToKw pos (keywordEach kws X.env)).all (·.1.isSome) = true := by rfl) (hks : (backToKw pos (keywordEach kws X.env)).filterMap (·.1) = ks := by rfl) (hdb : (nm == ("__debug__" : Str)) = false := by decide)
    (hpl : ((backTo pos (starEach [] X.env)).any (·.1) || (backToKw pos (keywordEach kws X.env)).any (·.1.isNone)) = false := by rfl) :
    PE X (.Call (.Name nm p) [] kws pos) (tMakeK C 0 ks.length sp gV E tNil tk) := by
  obtain ⟨f, fd, g, a, b, d, hb⟩ := c
  exact pe_makeK0 a b hr hg d hb hx hkw hall hks hdb hpl
theorem pe_makeWF (c : CalNW X.prog X.w X.K X.mg X.base k nm C ps ks gV sp) (hr : Room (k + 1) X.A) (hg : Gl X nm) (hkw : PK X kws tk)
    (hall : (backToKw pos (keywordEach kws X.env)).all (·.1.isSome) = true := by rfl) (hks : (backToKw pos (keywordEach kws X.env)).filterMap (·.1) = ks := by rfl) (hdb : (nm == ("__debug__" : Str)) = false := by decide)
    (hpl : ((backTo pos (starEach [] X.env)).any (·.1) || (backToKw pos (keywordEach kws X.env)).any (·.1.isNone)) = false := by rfl) :
    PE X (.Call (.Name nm p) [] kws pos) (tMakeK C 0 ks.length sp gV E0 tNil tk) := pe_makeW c hr passL hg hkw hall hks hdb hpl
theorem pe_makeDF (c : CalND X.prog X.w X.K X.mg X.base k nm C ps dvs sp) (hr : Room (k + 1) X.A) (hg : Gl X nm) (hdb : (nm == ("__debug__" : Str)) = false := by decide) :
    PE X (.Call (.Name nm p) [] [] pos) (tMake C sp dvs E0 tNil) := by
  obtain ⟨f, fd, ds, a, b, d, hb, v⟩ := c
  exact pe_make0 a b hr hg d hb v passL hdb
end
/-! ### defs as values, called out of a list -/
def tGl (mg : Str → Option Value) (nm : Str) : TE := fun _ H Q => ∀ f, mg nm = some (.ref f) → Q (.ref f) H
def tCall2 (mg : Str → Option Value) (nm1 nm2 : Str) (sp1 sp2 : Sp) (tf : TE) (t : TA) : TE := fun σ H Q => tf σ H fun y H1 => ∃ f, y = .ref f ∧ ((mg nm1 = some (.ref f) ∧ t σ H1 fun vs H2 => sp1 (vs ++ []) H2 Q E0) ∨ (mg nm2 = some (.ref f) ∧ t σ H1 fun vs H2 => sp2 (vs ++ []) H2 Q E0))
section
variable {X : Cx} {k : Nat} {nm nm1 nm2 : Str} {ps ps1 ps2 : List Str} {sp sp1 sp2 : Sp} {fe e : Expr} {es : List Expr} {tf : TE} {t : TA} {p pos : Pos}
theorem pe_gl (c : Cal X.prog X.w X.K X.mg X.base k nm ps sp) (mg : Str → Option Value) (hm : X.mg = mg) (hg : Gl X nm) (hdb : (nm == ("__debug__" : Str)) = false := by decide) : PE X (.Name nm p) (tGl mg nm) := by
  subst hm
  obtain ⟨f, fd, a, b, d, g⟩ := c
  refine ⟨fun pins s σ H Q I h => ?_⟩
  exact (pe_glob (v := .ref f) (pos := p) hg b rfl hdb).run pins s σ H Q I (h f b)
theorem pe_call2 (c1 : Cal X.prog X.w X.K X.mg X.base k nm1 ps1 sp1) (c2 : Cal X.prog X.w X.K X.mg X.base k nm2 ps2 sp2) (mg : Str → Option Value) (hm : X.mg = mg) (hf : PE X fe tf) (hr : Room k X.A) (ha : PA X (e :: es) t)
    (ht : eval (.Call fe (e :: es) [] pos) X.env = (do callWith pos (← eval fe X.env) [] (backTo pos (starEach (e :: es) X.env)) (backToKw pos (keywordEach [] X.env))) := by rfl)
    (he : starEach (e :: es) X.env = (false, eval e X.env) :: starEach es X.env := by rfl) (hpl : (backTo pos (starEach es X.env)).any (·.1) = false := by rfl) : PE X (.Call fe (e :: es) [] pos) (tCall2 mg nm1 nm2 sp1 sp2 tf t) := by
  subst hm
  obtain ⟨f1, fd1, a1, b1, d1, g1⟩ := c1
  obtain ⟨f2, fd2, a2, b2, d2, g2⟩ := c2
  refine ⟨fun pins s σ H Q I h => ?_⟩
  refine Call_ (thn (hf.run pins s σ H _ I h) fun u s1 ⟨y, H1, I1, ry, f, ey, q⟩ => ?_) ht
  subst ey
  obtain rfl : u = Value.ref f := ry
  rcases q with ⟨m, q⟩ | ⟨m, q⟩
  · obtain rfl : f1 = f := by
      rw [b1] at m
      cases m
      rfl
    refine PySem.W.callWith_K (h₀ := X.base) I.ok.mod.kin d1 (thn (ha.run pos pins s1 σ _ _ I1 q) fun us s2 ⟨vs, H2, I2, r, q⟩ => ⟨I2.kIn, ?_⟩) he hpl
    exact run_fn a1 hr g1 .nil pass0 I2 r q
  · obtain rfl : f2 = f := by
      rw [b2] at m
      cases m
      rfl
    refine PySem.W.callWith_K (h₀ := X.base) I.ok.mod.kin d2 (thn (ha.run pos pins s1 σ _ _ I1 q) fun us s2 ⟨vs, H2, I2, r, q⟩ => ⟨I2.kIn, ?_⟩) he hpl
    exact run_fn a2 hr g2 .nil pass0 I2 r q
end
section
variable {K : PySem.W.Frag} {x qual y : Str} {params : Arguments} {body : List Stmt} {scope : Scope} {kws : List (Str × V)} {f : Addr} {fd : FuncData} {ps : List Str} {v : V}
theorem kbn_app (F : FunD K x qual params body scope [] kws f fd) (n : Nat) (ks : List Str) (hk : kws ≠ [])
    (h : ∀ (D : Addr) (doc pm : Value) (an : Option Addr) (cdv ct : Value) (us ws : List Value), us.length = n → ws.length = ks.length → bindArgs (PySem.W.fnOf x qual params body scope .none (.ref D) doc pm an cdv ct) ⟨us, ks.zip ws⟩ = pure (ps.zip (us ++ ws))) :
    ∃ g, KBn K fd ps n ks g (fun vs zs => vs ++ zs) := by
  obtain ⟨mv, h⟩ := F.kbinds0 (ps := ps) n ks [] (fun {α} us mv ws => us ++ ws) hk (fun q hq => by cases hq) (fun r1 _ r3 => r1.append r3) (fun D doc pm an cdv ct us mv ws l1 l2 l3 => by
    have : mv = [] := List.eq_nil_of_length_eq_zero l2
    subst this
    exact h D doc pm an cdv ct us ws l1 l3)
  exact ⟨_, h⟩
/-- two keywords, in the other order -/
theorem kbn_two (F : FunD K x qual params body scope [] kws f fd) (ks : List Str) (hk : kws ≠ []) (h2 : ks.length = 2)
    (h : ∀ (D : Addr) (doc pm : Value) (an : Option Addr) (cdv ct : Value) (u v : Value), bindArgs (PySem.W.fnOf x qual params body scope .none (.ref D) doc pm an cdv ct) ⟨[], ks.zip [u, v]⟩ = pure (ps.zip [v, u])) :
    ∃ g, KBn K fd ps 0 ks g (fun vs zs => vs ++ two zs) := by
  obtain ⟨mv, h⟩ := F.kbinds0 (ps := ps) 0 ks [] (fun {α} us mv ws => us ++ two ws) hk (fun q hq => by cases hq) (fun r1 _ r3 => r1.append (by
    cases r3 with
    | nil => exact .nil
    | cons a r => cases r with
      | nil => exact .nil
      | cons b r => cases r with
        | nil => exact .cons b (.cons a .nil)
        | cons _ _ => exact .nil)) (fun D doc pm an cdv ct us mv ws l1 l2 l3 => by
    have : mv = [] := List.eq_nil_of_length_eq_zero l2
    subst this
    have : us = [] := List.eq_nil_of_length_eq_zero l1
    subst this
    rw [h2] at l3
    match ws, l3 with
    | [u, v], _ => exact h D doc pm an cdv ct u v)
  exact ⟨_, h⟩
theorem dfl_one (F : FunD K x qual params body scope [] [(y, v)] f fd) (n : Nat) (hn : n + 1 = ps.length)
    (h : ∀ (D : Addr) (doc pm : Value) (an : Option Addr) (cdv ct : Value) (us : List Value) (u : Value), us.length = n → KwChain D [(y, u)] (bindArgs (PySem.W.fnOf x qual params body scope .none (.ref D) doc pm an cdv ct) ⟨us, []⟩) (ps.zip (us ++ [u]))) :
    ∃ ds, Vals [v] ds ∧ Binds K fd ps ds := F.binds0 n (by intro z; cases z) hn (fun D doc pm an cdv ct us ks l1 l2 => by
  match ks, l2 with
  | [u], _ => exact h D doc pm an cdv ct us u l1)
theorem funD_one {oc : Value} {od an : Option Addr} {dc pm cd ct : Value} {sl : Array (Option Value)} {D : Addr} {u : Value} (l : K.lookup f = some ⟨oc, od, .func (PySem.W.fnOf x qual params body scope .none (.ref D) dc pm an cd ct), sl⟩) (c : PySem.W.codeIn K cd qual = true) (k : PySem.W.keepIn K (.ref f) = true)
    (n : PySem.W.nsIn K D y = some (some u)) (r : RelV v u) : FunD K x qual params body scope [] [(y, v)] f (PySem.W.fnOf x qual params body scope .none (.ref D) dc pm an cd ct) :=
  ⟨⟨_, _, _, _, _, _, _, _, _, _, rfl, l, c, .inl ⟨rfl, rfl⟩, .inr ⟨D, rfl, fun q hq => by rw [List.mem_singleton.mp hq]; exact ⟨u, n, r⟩⟩⟩, k⟩
end
end WB
namespace WB
open PySem PySem.Spec PyProof.Rows L2
/-! ### many things of one kind, as one -/
section
variable {α : Type} {T0 : List (Addr × Str)} {Ts : List Th} {Y : List α} {f : α → Th} {i j : Nat} {y y' z : α} {H H' : Hp} {N : Th}
theorem mem_tG {a : Addr} : a ∈ (tG (Y.map f)).ft ↔ ∃ y ∈ Y, a ∈ (f y).ft := by
  show a ∈ (Y.map f).flatMap (·.ft) ↔ _
  rw [List.mem_flatMap]
  constructor
  · rintro ⟨T, hT, ha⟩
    obtain ⟨y, hy, rfl⟩ := List.mem_map.mp hT
    exact ⟨y, hy, ha⟩
  · rintro ⟨y, hy, ha⟩
    exact ⟨f y, List.mem_map.mpr ⟨y, hy, rfl⟩, ha⟩
theorem map_at (hj : Y[j]? = some y) : (Y.map f)[j]? = some (f y) := by
  rw [List.getElem?_map, hj]
  rfl
theorem Hs.gget (h : Hs T0 Ts H) (i : Nat) (hi : Ts[i]? = some (tG (Y.map f))) (hj : Y[j]? = some y) : (f y).P H := by
  have g : Hs [] (Y.map f) H := h.get i hi
  exact g.get j (map_at hj)
theorem gset_ft (hj : Y[j]? = some y) (hf : ∀ a ∈ (f y').ft, a ∈ (f y).ft ∨ H a = none) : ∀ a ∈ (tG ((Y.set j y').map f)).ft, a ∈ (tG (Y.map f)).ft ∨ H a = none := fun a ha => by
  obtain ⟨z, hz, ha⟩ := mem_tG.mp ha
  rcases List.mem_or_eq_of_mem_set hz with q | q
  · exact .inl (mem_tG.mpr ⟨z, q, ha⟩)
  · rw [q] at ha
    exact (hf a ha).imp (fun x => mem_tG.mpr ⟨y, List.mem_of_getElem? hj, x⟩) id
theorem gset_P {F : List Addr} (g : Hs [] (Y.map f) H) (hj : Y[j]? = some y) (m : MvF F H H') (hF : ∀ a ∈ F, a ∈ (f y).ft ∨ H a = none) (hp : (f y').P H') (hf : ∀ a ∈ (f y').ft, a ∈ (f y).ft ∨ H a = none) : (tG ((Y.set j y').map f)).P H' := by
  have := g.op (T' := f y') j (map_at hj) m hF hp hf
  rw [← List.map_set] at this
  exact this
theorem Hs.gset {F : List Addr} (h : Hs T0 Ts H) (i : Nat) (hi : Ts[i]? = some (tG (Y.map f))) (hj : Y[j]? = some y) (m : MvF F H H') (hF : ∀ a ∈ F, a ∈ (f y).ft ∨ H a = none) (hp : (f y').P H') (hf : ∀ a ∈ (f y').ft, a ∈ (f y).ft ∨ H a = none) : Hs T0 (Ts.set i (tG ((Y.set j y').map f))) H' :=
  h.op i hi m (fun a ha => (hF a ha).imp (fun x => mem_tG.mpr ⟨y, List.mem_of_getElem? hj, x⟩) id) (gset_P (h.get i hi) hj m hF hp hf) (gset_ft hj hf)
/-- the j-th changes, and a new one comes -/
theorem Hs.gsetN {F : List Addr} (h : Hs T0 Ts H) (i : Nat) (hi : Ts[i]? = some (tG (Y.map f))) (hj : Y[j]? = some y) (m : MvF F H H') (hF : ∀ a ∈ F, a ∈ (f y).ft ∨ H a = none) (hp : (f y').P H') (hf : ∀ a ∈ (f y').ft, a ∈ (f y).ft ∨ H a = none)
    (hn : N.P H') (hnf : ∀ a ∈ N.ft, H a = none ∧ a ∉ (f y').ft) : Hs T0 (N :: Ts.set i (tG ((Y.set j y').map f))) H' := by
  refine h.opNew i hi m (fun a ha => (hF a ha).imp (fun x => mem_tG.mpr ⟨y, List.mem_of_getElem? hj, x⟩) id) (gset_P (h.get i hi) hj m hF hp hf) (gset_ft hj hf) hn (fun a ha => ⟨(hnf a ha).1, fun q => ?_⟩)
  obtain ⟨z, hz, hz2⟩ := mem_tG.mp q
  rcases List.mem_or_eq_of_mem_set hz with q | q
  · have g : Hs [] (Y.map f) H := h.get i hi
    obtain ⟨k, hk⟩ := List.getElem?_of_mem q
    exact (f z).live (g.get k (map_at hk)) hz2 (hnf a ha).1
  · rw [q] at hz2
    exact (hnf a ha).2 hz2
theorem Hs.gadd (h : Hs T0 (f z :: tG (Y.map f) :: Ts) H) : Hs T0 (tG ((Y ++ [z]).map f) :: Ts) H := by
  have h1 := h.swap.ungroup
  rw [show Y.map f ++ f z :: Ts = (Y ++ [z]).map f ++ Ts by simp] at h1
  exact h1.group
theorem Hs.gnil (h : Hs T0 Ts H) : Hs T0 (tG (([] : List α).map f) :: Ts) H := Hs.group (Ts := []) h
end
theorem map_set_same {α β : Type} {f : α → β} {Y : List α} {w : Nat} {x x' : α} (h : Y[w]? = some x) (e : f x' = f x) : (Y.set w x').map f = Y.map f := by
  rw [List.map_set, e]
  apply List.ext_getElem?
  intro i
  rw [List.getElem?_set]
  by_cases z : w = i
  · subst z
    rw [if_pos rfl, List.getElem?_map, h, List.length_map, if_pos (List.getElem?_eq_some_iff.mp h).1]
    rfl
  · rw [if_neg z]
theorem const_by {v : V} {i : Nat} {u : TS} {D : Ends} {σ : L2.St} {H : Hp} (h : u D (σ.set i (some v)) H) : tSeq (tAsg (tC v) (gName i)) u D σ H := h
theorem getElem?_ex {α : Type} {l : List α} {i : Nat} (h : i < l.length) : ∃ x, l[i]? = some x := ⟨_, List.getElem?_eq_getElem h⟩
end WB
namespace WB
open PySem PySem.Spec PyProof.Rows L2
/-! ### tuples of ints, ordered -/
def tupD (t : List Int) : PyData := .tuple (t.map PyData.int)
/-- the first difference decides -/
def lexB : List Int → List Int → Bool
  | [], [] => false
  | [], _ :: _ => true
  | _ :: _, [] => false
  | x :: xs, y :: ys => if x = y then lexB xs ys else decide (x < y)
theorem lexB_eq : ∀ xs ys : List Int, PySem.W.listLt xs ys = lexB xs ys
  | [], [] => rfl
  | [], _ :: _ => rfl
  | _ :: _, [] => rfl
  | x :: xs, y :: ys => by
    unfold PySem.W.listLt lexB
    rw [lexB_eq xs ys]
    rfl
theorem dataLt_tup (s t : List Int) : PySem.W.dataLt (tupD s) (tupD t) = lexB s t := by
  have h := PySem.W.DatumOrd.lt_eq (α := PySem.W.Tup Int) ⟨s⟩ ⟨t⟩
  rw [← lexB_eq]
  exact h
def minT (x : List Int) (r : List (List Int)) : List Int := r.foldl (fun a y => if lexB y a = true then y else a) x
theorem minD_tup : ∀ (r : List (List Int)) (x : List Int), PySem.W.minD (tupD x) (r.map tupD) = tupD (minT x r)
  | [], x => rfl
  | y :: r, x => by
    show (r.map tupD).foldl _ (if PySem.W.dataLt (tupD y) (tupD x) = true then tupD y else tupD x) = tupD (r.foldl _ (if lexB y x = true then y else x))
    rw [dataLt_tup]
    cases lexB y x with
    | true => exact minD_tup r y
    | false => exact minD_tup r x
theorem alike_tup (s t : List Int) : PySem.W.alike (tupD s) (tupD t) = true := PySem.W.DatumOrd.alike (α := PySem.W.Tup Int) ⟨s⟩ ⟨t⟩
theorem depth_tups : ∀ ts : List (List Int), PyData.depthAll (ts.map tupD) ≤ 1
  | [] => Nat.zero_le _
  | t :: ts => by
    show max (PyData.depthAll (t.map PyData.int) + 1) (PyData.depthAll (ts.map tupD)) ≤ 1
    rw [depth_ints]
    exact Nat.max_le.mpr ⟨Nat.le_refl _, depth_tups ts⟩
section
variable {K : PySem.W.Frag}
theorem dpa_at {H : Hp} : ∀ {xs : List V} {ds : List PyData} {i : Nat} {x : V}, DpAll K H xs ds → xs[i]? = some x → ∃ d, ds[i]? = some d ∧ Dp K H x d
  | _, _, _, _, .nil, e => by simp at e
  | _, _, 0, _, .cons h _, e => by simp at e; subst e; exact ⟨_, rfl, h⟩
  | _, _, i + 1, x, .cons _ t, e => by
    obtain ⟨d, h1, h2⟩ := dpa_at (i := i) (x := x) t (by simpa using e)
    exact ⟨d, by simpa using h1, h2⟩
theorem dpa_int_inv {H : Hp} : ∀ {t : List Int} {xs : List V}, DpAll K H xs (t.map PyData.int) → xs = t.map V.int
  | [], _, .nil => rfl
  | _ :: _, _, .cons h r => by
    cases h
    rw [dpa_int_inv r]
    rfl
theorem dp_tup_inv {H : Hp} {v : V} {t : List Int} (h : Dp K H v (tupD t)) : ∃ p, v = .ref p ∧ SqT K H p (t.map V.int) := by
  cases h with
  | tup hs ha => exact ⟨_, rfl, by rw [← dpa_int_inv ha]; exact hs⟩
theorem dp_tup {H : Hp} {p : Addr} {t : List Int} (h : SqT K H p (t.map V.int)) : Dp K H (.ref p) (tupD t) := .tup h (dpa_ints t)
end
theorem tupD_inj {s t : List Int} (h : tupD s = tupD t) : s = t := by
  have h1 : s.map PyData.int = t.map PyData.int := PyData.tuple.inj h
  exact List.map_inj_right (fun _ _ e => PyData.int.inj e) |>.mp h1
/-- min of a list of tuples of ints: one of them, whose numbers are the least -/
def rMinT (K : PySem.W.Frag) : List V → Hp → VK → Prop := fun vs H Q => ∃ (a : Addr) (xs : List V) (x : List Int) (r : List (List Int)), vs = [.ref a] ∧ SqL K H a xs ∧ DpAll K H xs ((x :: r).map tupD) ∧ ∀ (i : Nat) (p : Addr), xs[i]? = some (.ref p) → (x :: r)[i]? = some (minT x r) → SqT K H p ((minT x r).map V.int) → Q (.ref p) H
theorem vals_at {xs : List V} {us : List Value} (h : Vals xs us) : ∀ {i : Nat} {u : Value}, us[i]? = some u → ∃ x, xs[i]? = some x ∧ RelV x u := by
  induction h with
  | nil => intro i u e; simp at e
  | cons a r ih =>
    intro i u e
    cases i with
    | zero => simp at e; subst e; exact ⟨_, rfl, a⟩
    | succ i =>
      obtain ⟨x, h1, h2⟩ := ih (i := i) (u := u) (by simpa using e)
      exact ⟨x, by simpa using h1, h2⟩
section
variable {X : Cx}
theorem cr_minT (hu : X.A.units + 64 < cLine) (hc : X.calm = true) : CallR X (.builtin "min") (rMinT X.K) := by
  intro pins s σ H vs us Q I r h
  obtain ⟨a, xs, x, rs, rfl, hs, hd, q⟩ := h
  obtain ⟨its, rv, hl, _⟩ := I.list hs
  rw [Vals.ref1 r]
  obtain ⟨as, hr⟩ := Dp.readsAll I _ _ _ hd rv
  have hdep := depth_tups (x :: rs)
  refine PySem.W.min_list_data (vs := its.toArray) (x := tupD x) (xs := rs.map tupD) (I.ok.hd hc) hl.isList hr ⟨?_, ?_⟩ ?_ fun i v h' tk bs hi hv hk => ?_
  · intro y hy z hz
    obtain ⟨t1, _, rfl⟩ := List.mem_map.mp (show y ∈ (x :: rs).map tupD from hy)
    obtain ⟨t2, _, rfl⟩ := List.mem_map.mp (show z ∈ (x :: rs).map tupD from hz)
    exact alike_tup t1 t2
  · intro y hy
    obtain ⟨t1, _, rfl⟩ := List.mem_map.mp (show y ∈ (x :: rs).map tupD from hy)
    exact fun z => by cases z
  · have e : PyData.depthAll (tupD x :: rs.map tupD) ≤ 1 := hdep
    omega
  · rw [minD_tup] at hv
    obtain ⟨xv, h1, h2⟩ := vals_at rv (i := i) (u := v) (by simpa using hi)
    obtain ⟨d, e1, e2⟩ := dpa_at hd h1
    obtain ⟨cs, hv2⟩ := Dp.reads I d xv v e2 h2
    have e3 := (reads_det (h := s.heap) (h' := h') (fun b o e _ => hk b o e) hv2 hv).1
    rw [← e3] at e1 e2
    obtain ⟨p, rfl, hp⟩ := dp_tup_inv e2
    have e4 : (x :: rs)[i]? = some (minT x rs) := by
      rw [List.getElem?_map] at e1
      cases e5 : (x :: rs)[i]? with
      | none => rw [e5] at e1; cases e1
      | some t =>
        rw [e5] at e1
        rw [tupD_inj (Option.some.inj e1)]
    exact ⟨.ref p, H, I.kept hk, h2, q i p h1 e4 hp⟩
theorem cr_minTK (K : PySem.W.Frag) (h : X.K = K) (hu : X.A.units + 64 < cLine) (hc : X.calm = true) : CallR X (.builtin "min") (rMinT K) := by subst h; exact cr_minT hu hc
end
end WB
namespace WB
open PySem PySem.Spec PyProof.Rows L2
theorem mt_lcountK {X : Cx} (K : PySem.W.Frag) (h : X.K = K) : MtR X "list.count" (rCntI K) := by subst h; exact mt_lcount
theorem eq_t {a b : Int} (e : decide (V.int a = V.int b) = true) : a = b := V.int.inj (of_decide_eq_true e)
theorem eq_f {a b : Int} (e : ¬ decide (V.int a = V.int b) = true) : a ≠ b := fun z => e (decide_eq_true (congrArg V.int z))
theorem ne_t {a b : Int} (e : (!decide (V.int a = V.int b)) = true) : a ≠ b := fun z => by
  rw [decide_eq_true (congrArg V.int z)] at e
  cases e
theorem ne_f {a b : Int} (e : ¬ (!decide (V.int a = V.int b)) = true) : a = b := by
  by_cases z : a = b
  · exact z
  · exact absurd (by rw [decide_eq_false (fun y => z (V.int.inj y))]; rfl) e
end WB
namespace WB
open PySem PySem.Spec PyProof.Rows L2
/-! ### zip of two sequences, each a list (true) or a tuple (false) -/
def SqK (K : PySem.W.Frag) : Bool → Hp → Addr → List V → Prop
  | true, H, a, xs => SqL K H a xs
  | false, H, a, xs => SqT K H a xs
def KIt : Bool → Heap → Addr → Addr → Nat → Prop
  | true, h, it, a, i => h.IsListIter it a i
  | false, h, it, a, i => h.IsTupleIter it a i
def KSeq : Bool → Heap → Addr → Array Value → Prop
  | true, h, a, vs => h.IsList a vs
  | false, h, a, vs => h.IsTuple a vs
def kItO : Bool → Addr → Obj
  | true, a => { cls := .type "list_iterator", data := .fields #[.ref a, .int 0 0] }
  | false, a => { cls := .type "tuple_iterator", data := .fields #[.ref a, .int 0 0] }
theorem draws_k {P : Program} {w : World} {A : Around} (k : Bool) (hh : A.handled = none) (it l : Addr) (hne : l ≠ it) (vs : Array Value) :
    Draws P w A it [it, l] vs.size (fun i v => vs[i]? = some v) (fun i h => KIt k h it l i ∧ KSeq k h l vs) := by
  cases k with
  | true => exact Draws.list hh it l hne vs
  | false => exact Draws.tuple hh it l hne vs
theorem begins_k (k : Bool) (l : Addr) (vs : Array Value) : Begins (.ref l) (kItO k l) (fun h => KSeq k h l vs) := by
  cases k with
  | true => exact begins_list l vs
  | false => exact begins_tuple l vs
theorem kit_at {k : Bool} {h h' : Heap} {it a : Addr} {i : Nat} (x : KIt k h it a i) (e : ∀ o, h.get? it = some o → h'.get? it = some o) : KIt k h' it a i := by
  cases k with
  | true => exact Heap.IsListIter.at x e
  | false => exact Heap.IsTupleIter.at x e
theorem kit_obj {k : Bool} {h : Heap} {it a : Addr} {i : Nat} (x : KIt k h it a i) : ∃ o, h.get? it = some o ∧ ∀ v, o.data ≠ .cell v := by
  cases k with
  | true =>
    obtain ⟨o, e, _, d⟩ := x
    exact ⟨o, e, fun v q => by rw [d] at q; cases q⟩
  | false =>
    obtain ⟨o, e, _, d⟩ := x
    exact ⟨o, e, fun v q => by rw [d] at q; cases q⟩
theorem kit_new {k : Bool} {h : Heap} {it a : Addr} (e : h.get? it = some (kItO k a)) : KIt k h it a 0 := by
  cases k with
  | true => exact ⟨_, e, rfl, rfl⟩
  | false => exact ⟨_, e, rfl, rfl⟩
section
variable {X : Cx} {pins : List (Addr × Obj)} {σ : L2.St} {H : Hp} {s : Shared} {k : Bool} {a : Addr} {xs ys : List V}
theorem SqK.read (I : Inv X pins σ H s) (h : SqK X.K k H a xs) : ∃ its : List Value, Vals xs its ∧ KSeq k s.heap a its.toArray ∧ a < s.heap.objs.size := by
  cases k with
  | true =>
    obtain ⟨its, r, p, _⟩ := I.list h
    exact ⟨its, r, p.isList, p.lt⟩
  | false =>
    obtain ⟨its, r, p, _⟩ := I.tuple h
    obtain ⟨o, e, _⟩ := id p
    exact ⟨its, r, p, Heap.lt_size e⟩
theorem SqK.inj (I : Inv X pins σ H s) (h : SqK X.K k H a xs) (h' : SqK X.K k H a ys) : xs = ys := by
  cases k with
  | true => exact I.list_inj h h'
  | false => exact I.tuple_inj h h'
end
theorem SqK.same {K : PySem.W.Frag} {k : Bool} {H H' : Hp} {a : Addr} {xs : List V} (e : Same H H') (h : SqK K k H a xs) : SqK K k H' a xs := by
  cases k with
  | true => exact e.seq h
  | false => exact same_t e h
def Itz2 (K : PySem.W.Frag) (k1 k2 : Bool) (a b : Addr) : It where
  go i H := ∃ (xs ys : List V) (x y : V), SqK K k1 H a xs ∧ SqK K k2 H b ys ∧ xs[i]? = some x ∧ ys[i]? = some y
  yld i H v H' := ∃ (T : Addr) (x y : V), v = .ref T ∧ H T = none ∧ H' = upd H T (.tup [x, y]) ∧ (∀ l, SqK K k1 H a l → l[i]? = some x) ∧ ∀ l, SqK K k2 H b l → l[i]? = some y
  stop i H := ∃ (xs ys : List V), SqK K k1 H a xs ∧ SqK K k2 H b ys ∧ i ≤ xs.length ∧ i ≤ ys.length ∧ (i = xs.length ∨ i = ys.length)
theorem of5 {c z TI TO i1 i2 : Addr} (h : c ∈ [z, TI, TO, i1, i2]) : c = z ∨ c = TI ∨ c = TO ∨ c = i1 ∨ c = i2 := by simpa using h
theorem turn_z2 {P : Program} {w : World} {K : PySem.W.Frag} {elts : List Expr} {kk : Nat} {tpos : Pos} {k1 k2 : Bool} {a b z TI TO i1 i2 : Addr} (S : ZipSep2 z TI TO i1 i2 [i1, a] [i2, b]) (n1 : a ≠ i1) (n2 : b ≠ i2) :
    Turn P w K (.Tuple elts kk tpos) (Itz2 K k1 k2 a b) [z, TI, TO, i1, i2] z (fun i h => IsZip h z TI TO .none ∧ IsTupOf2 h TI (.ref i1) (.ref i2) ∧ (∃ x y, IsTupOf2 h TO x y) ∧ KIt k1 h i1 a i ∧ KIt k2 h i2 b i) where
  mem := .head _
  obj := by
    rintro i h ⟨hz, hI, ⟨x, y, hO⟩, h1, h2⟩ c hc
    rcases of5 hc with rfl | rfl | rfl | rfl | rfl
    · exact ⟨_, hz, fun v q => nomatch q⟩
    · exact ⟨_, hI, fun v q => nomatch q⟩
    · exact ⟨_, hO, fun v q => nomatch q⟩
    · exact kit_obj h1
    · exact kit_obj h2
  keep := by
    rintro i h h' ⟨hz, hI, ⟨x, y, hO⟩, h1, h2⟩ kp
    exact ⟨kp z (by simp) _ hz, kp TI (by simp) _ hI, ⟨x, y, kp TO (by simp) _ hO⟩, kit_at h1 (fun o => kp i1 (by simp) o), kit_at h2 (fun o => kp i2 (by simp) o)⟩
  item := by
    intro X hP hw hK hc i pins s σ H E I hf st hg
    subst hP hw hK
    obtain ⟨hz, hI, ⟨x0, y0, hO⟩, h1, h2⟩ := st
    obtain ⟨xs, ys, x, y, qx, qy, ex, ey⟩ := hg
    obtain ⟨us, ru, pu, _⟩ := qx.read I
    obtain ⟨vs, rv, pv, _⟩ := qy.read I
    obtain ⟨u, hu, rxu⟩ := ru.get ex
    obtain ⟨v, hv, ryv⟩ := rv.get ey
    have lz : z < s.heap.objs.size := Heap.lt_size hz
    have hh : X.A.in1.handled = none := I.ok.hd hc
    refine wpAny_pyNext_zipD2_item S (draws_k k1 hh i1 a n1 us.toArray) (draws_k k2 hh i2 b n2 vs.toArray) hz hI hO ⟨h1, pu⟩ ⟨h2, pv⟩ (by simpa using (List.getElem?_eq_some_iff.mp hu).1) (by simpa using (List.getElem?_eq_some_iff.mp hv).1) fun u' v' h' tk hu' hv' z' O' t1 t2 hT hsz keep => ?_
    obtain rfl : u = u' := by
      have : us[i]? = some u' := by simpa using hu'
      rw [hu] at this
      exact Option.some.inj this
    obtain rfl : v = v' := by
      have : vs[i]? = some v' := by simpa using hv'
      rw [hv] at this
      exact Option.some.inj this
    refine ⟨_, rfl, wpAny_letOwnedTupleGo_zip (s := { s with heap := h', toks := tk }) z' fun h'' z'' sb => ?_⟩
    have hT2 : h''.get? s.heap.objs.size = some { cls := .type "tuple", data := .seq #[u, v] } := (sb.2 _ (Nat.ne_of_gt lz)).trans hT
    have J : Inv X pins σ (upd H s.heap.objs.size (.tup [x, y])) { s with heap := h'', toks := tk } :=
      I.turnedNew (ch := [z, TI, TO, i1, i2]) (fun c o nc q => by
        have m : ∀ d, d ∈ [z, TI, TO, i1, i2] → c ≠ d := fun d hd e => nc (e ▸ hd)
        rw [sb.2 c (m z (by simp))]
        exact keep c o (m z (by simp)) (m TO (by simp)) (m i1 (by simp)) (m i2 (by simp)) q) hf (Nat.le_refl _) ⟨by show 2 ≤ sizeLine; decide, [u, v], .cons rxu (.cons ryv .nil), _, hT2, rfl, _, rfl⟩
    refine ⟨.ref s.heap.objs.size, _, J, rfl, ⟨_, x, y, rfl, I.hok.fresh (Nat.le_refl _), rfl, fun l hl => by rw [hl.inj I qx]; exact ex, fun l hl => by rw [hl.inj I qy]; exact ey⟩, ⟨z'', ?_, ⟨u, v, ?_⟩, ?_, ?_⟩, fun c hcm => ?_⟩
    · exact (sb.2 _ S.TIz).trans (keep _ _ S.TIz S.TITO S.TIi1 S.TIi2 hI)
    · exact (sb.2 _ S.TOz).trans O'
    · exact kit_at t1.1 (fun o q => (sb.2 _ S.zi1.symm).trans q)
    · exact kit_at t2.1 (fun o q => (sb.2 _ S.zi2.symm).trans q)
    · have lt : c < s.heap.objs.size := by
        rcases of5 hcm with rfl | rfl | rfl | rfl | rfl
        · exact lz
        · exact Heap.lt_size hI
        · exact Heap.lt_size hO
        · obtain ⟨o, e, _⟩ := kit_obj h1
          exact Heap.lt_size e
        · obtain ⟨o, e, _⟩ := kit_obj h2
          exact Heap.lt_size e
      rw [upd_ne (Nat.ne_of_lt lt)]
      exact (hf c hcm).1
  done := by
    intro X hP hw hK hc i pins s σ H E I hf st hg
    subst hP hw hK
    obtain ⟨hz, hI, ⟨x0, y0, hO⟩, h1, h2⟩ := st
    obtain ⟨xs, ys, qx, qy, l1, l2, he⟩ := hg
    obtain ⟨us, ru, pu, _⟩ := qx.read I
    obtain ⟨vs, rv, pv, _⟩ := qy.read I
    have e1 := ru.length
    have e2 := rv.length
    have hh : X.A.in1.handled = none := I.ok.hd hc
    refine wpAny_pyNext_zipD2_end S (draws_k k1 hh i1 a n1 us.toArray) (draws_k k2 hh i2 b n2 vs.toArray) hz hI hO ⟨h1, pu⟩ ⟨h2, pv⟩ (by simp; omega) (by simp; omega) (by simp; omega) fun h' tk keep => ⟨rfl, ?_⟩
    exact I.turnedL (ch := [z, TI, TO, i1, i2]) (fun c o nc q => by
      have m : ∀ d, d ∈ [z, TI, TO, i1, i2] → c ≠ d := fun d hd e => nc (e ▸ hd)
      exact keep c o (m z (by simp)) (m TO (by simp)) (m i1 (by simp)) (m i2 (by simp)) q) hf
  self := fun A i s Q E st h => wpAny_pyIter_zip st.1 h
def iZip2 (K : PySem.W.Frag) (ta : TA) : TI := fun σ H R => ta σ H fun vs H1 => ∃ (a b : Addr) (k1 k2 : Bool) (xs ys : List V), vs = [.ref a, .ref b] ∧ SqK K k1 H1 a xs ∧ SqK K k2 H1 b ys ∧ R (Itz2 K k1 k2 a b) H1
theorem pi_zip2 {X : Cx} (K : PySem.W.Frag) (hKK : X.K = K) {e e2 : Expr} {ta : TA} {p pos tpos : Pos} {elts : List Expr} {kk : Nat} (hg : Gl X "zip") (hm : X.mg "zip" = none) (ha : PA X [e, e2] ta)
    (hs : starEach [e, e2] X.env = (false, eval e X.env) :: starEach [e2] X.env := by rfl) (hpl : (backTo pos (starEach [e2] X.env)).any (·.1) = false := by rfl) :
    PI X (.Tuple elts kk tpos) (.Call (.Name "zip" p) [e, e2] [] pos) (iZip2 K ta) := by
  subst hKK
  refine ⟨fun pins s σ H R I h => ?_⟩
  refine Call_ (ld_blt I hg hm PyProof.Rows.boot_zip (PyProof.Rows.callWith_type1 (thn (ha.run pos pins s σ H _ I h) fun us s1 y => ?_) hs hpl))
  obtain ⟨vs, H1, I1, r1, a, b, k1, k2, xs, ys, rfl, qx, qy, q⟩ := y
  cases r1 with
  | cons r rr =>
    cases rr with
    | cons r' rr =>
      cases rr
      cases r
      cases r'
      obtain ⟨us, ru, pu, la⟩ := qx.read I1
      obtain ⟨ws, rw_, pw, lb⟩ := qy.read I1
      refine zip_begins2 (begins_k k1 a us.toArray) (begins_k k2 b ws.toArray) pu pw fun h' hz hI hO g1 g2 hsz keep => wpAny_pyIter_zip hz ?_
      refine ⟨s1.heap.objs.size + 4, [s1.heap.objs.size + 4, s1.heap.objs.size + 2, s1.heap.objs.size + 3, s1.heap.objs.size, s1.heap.objs.size + 1], _, _, H1, rfl, I1.kept (t' := s1.toks) keep, turn_z2 (zip_sep2 (N := s1.heap.objs.size) (fp1 := [a]) (fp2 := [b]) (fun c hc => by rw [List.mem_singleton.mp hc]; exact la) (fun c hc => by rw [List.mem_singleton.mp hc]; exact lb)) (Nat.ne_of_lt la) (Nat.ne_of_lt (Nat.lt_succ_of_lt lb)), ⟨hz, hI, ⟨_, _, hO⟩, kit_new g1, kit_new g2⟩, fun c hc => ?_, q⟩
      have le : s1.heap.objs.size ≤ c := by
        rcases of5 hc with z | z | z | z | z
        · rw [z]; exact Nat.le_add_right _ _
        · rw [z]; exact Nat.le_add_right _ _
        · rw [z]; exact Nat.le_add_right _ _
        · rw [z]; exact Nat.le_refl _
        · rw [z]; exact Nat.le_add_right _ _
      exact I1.fpOk le (I1.hok.fresh le)
theorem walk_z2 {K : PySem.W.Frag} {k1 k2 : Bool} {a b : Addr} {xs ys : List V} {n : Nat} (hn : n = min xs.length ys.length) : Walk (Itz2 K k1 k2 a b) n (fun H => SqK K k1 H a xs ∧ SqK K k2 H b ys) (YPair (fun i => xs[i]?) (fun i => ys[i]?)) := by
  subst hn
  refine ⟨fun i _ hi q => ?_, fun _ q => ⟨xs, ys, q.1, q.2, by omega, by omega, by omega⟩, fun i H v H' _ q y => ?_⟩
  · obtain ⟨x, hx⟩ := getElem?_ex (show i < xs.length by omega)
    obtain ⟨y, hy⟩ := getElem?_ex (show i < ys.length by omega)
    exact ⟨xs, ys, x, y, q.1, q.2, hx, hy⟩
  · obtain ⟨T, x, z, h1, h2, h3, h4, h5⟩ := y
    exact ⟨T, x, z, h1, h2, h3, h4 xs q.1, h5 ys q.2⟩
/-! ### tuples that are cut, whole or in part -/
theorem sl_tupAK {X : Cx} (K : PySem.W.Frag) (h : X.K = K) : SlR X (rSlA K) := by subst h; exact sl_tupA
end WB
namespace WB
open PySem PySem.Spec PyProof.Rows L2
/-! ### things that stand apart, and tuples that are known (they may be shared: nothing changes them) -/
def noT : HO → Prop
  | .tup _ => False
  | .frz _ _ => False
  | _ => True
class NT (T : Th) : Prop where
  nt : ∀ H, T.P H → ∀ a ∈ T.ft, ∀ o, H a = some o → noT o
def TF (K : PySem.W.Frag) (L : List (Addr × List V)) (H : Hp) : Prop := ∀ p ∈ L, SqT K H p.1 p.2
section
variable {K : PySem.W.Frag} {L : List (Addr × List V)} {H H' : Hp} {F : List Addr} {a : Addr} {xs : List V}
theorem sqT_keep (kp : ∀ o, H a = some o → ¬ noT o → H' a = some o) (h : SqT K H a xs) : SqT K H' a xs := by
  rcases h with (h | ⟨o, h⟩) | h
  · exact .inl (.inl (kp _ h (fun z => z)))
  · exact .inl (.inr ⟨o, kp _ h (fun z => z)⟩)
  · exact .inr h
theorem sqT_mvf (m : MvF F H H') (hF : ∀ a ∈ F, ∀ o, H a = some o → noT o) (h : SqT K H a xs) : SqT K H' a xs := sqT_keep (fun o e n => m.kp a o (fun z => n (hF a z o e)) e) h
theorem TF.mvf (m : MvF F H H') (hF : ∀ a ∈ F, ∀ o, H a = some o → noT o) (t : TF K L H) : TF K L H' := fun p hp => sqT_mvf m hF (t p hp)
theorem TF.same (s : Same H H') (t : TF K L H) : TF K L H' := fun p hp => same_t s (t p hp)
end
instance (b : Addr × Addr) : NT (tB b) := ⟨fun H h a ha o e => by
  obtain ⟨ns, i, r, x, c, h1, h2, _⟩ := h
  rcases List.mem_cons.mp ha with rfl | ha
  · rw [h1] at e
    cases e
    trivial
  · rw [List.mem_singleton.mp ha, h2] at e
    cases e
    trivial⟩
instance (a : Addr) (xs : List V) : NT (tO a (.lst xs)) := ⟨fun H h b hb o e => by
  rw [in1 hb, h.1] at e
  cases e
  trivial⟩
instance {α : Type} (Y : List α) (f : α → Th) [i : ∀ y, NT (f y)] : NT (tG (Y.map f)) := ⟨fun H h a ha o e => by
  obtain ⟨y, hy, ha⟩ := mem_tG.mp ha
  obtain ⟨j, hj⟩ := List.getElem?_of_mem hy
  have g : Hs [] (Y.map f) H := h
  exact (i y).nt H (g.get j (map_at hj)) a ha o e⟩
structure Hw (K : PySem.W.Frag) (L : List (Addr × List V)) (T0 : List (Addr × Str)) (Ts : List Th) (H : Hp) : Prop where
  hs : Hs T0 Ts H
  tf : TF K L H
section
variable {K : PySem.W.Frag} {L L' : List (Addr × List V)} {T0 : List (Addr × Str)} {Ts : List Th} {T T' N : Th} {H H' : Hp} {a p : Addr} {xs : List V} {b : Addr × Addr} {o o' : HO}
theorem Hw.of (h : Hs T0 Ts H) : Hw K [] T0 Ts H := ⟨h, fun p hp => absurd hp List.not_mem_nil⟩
theorem Hw.get (h : Hw K L T0 Ts H) (i : Nat) (hi : Ts[i]? = some T) : T.P H := h.hs.get i hi
theorem Hw.at (h : Hw K L T0 Ts H) (i : Nat) (hi : Ts[i]? = some (tO p o)) : H p = some o := h.hs.at i hi
theorem Hw.tup (h : Hw K L T0 Ts H) (i : Nat) (hi : L[i]? = some (a, xs)) : SqT K H a xs := h.tf _ (List.mem_of_getElem? hi)
theorem Hw.same (h : Hw K L T0 Ts H) (s : Same H H') : Hw K L T0 Ts H' := ⟨h.hs.same s, h.tf.same s⟩
theorem Hw.know (h : Hw K L T0 Ts H) (t : SqT K H a xs) : Hw K ((a, xs) :: L) T0 Ts H := ⟨h.hs, fun p hp => (List.mem_cons.mp hp).elim (fun z => by rw [z]; exact t) (h.tf p)⟩
theorem Hw.selT (h : Hw K L T0 Ts H) (hs : ∀ q ∈ L', q ∈ L) : Hw K L' T0 Ts H := ⟨h.hs, fun p hp => h.tf p (hs p hp)⟩
theorem Hw.sel (h : Hw K L T0 Ts H) (is : List Nat) (hn : is.Nodup) : Hw K L T0 (pickTs Ts is) H := ⟨h.hs.sel is hn, h.tf⟩
theorem Hw.bag (h : Hw K L T0 (tB b :: Ts) H) : Bag b H := h.hs.bag
theorem Hw.noF [NT T] {F : List Addr} (h : Hw K L T0 Ts H) (i : Nat) (hi : Ts[i]? = some T) (hF : ∀ a ∈ F, a ∈ T.ft ∨ H a = none) : ∀ a ∈ F, ∀ o, H a = some o → noT o := fun a ha o e => by
  rcases hF a ha with z | z
  · exact NT.nt H (h.hs.get i hi) a z o e
  · rw [z] at e
    cases e
theorem Hw.op [NT T] {F : List Addr} (h : Hw K L T0 Ts H) (i : Nat) (hi : Ts[i]? = some T) (m : MvF F H H') (hF : ∀ a ∈ F, a ∈ T.ft ∨ H a = none) (hp : T'.P H') (hf : ∀ a ∈ T'.ft, a ∈ T.ft ∨ H a = none) : Hw K L T0 (Ts.set i T') H' :=
  ⟨h.hs.op i hi m hF hp hf, h.tf.mvf m (h.noF i hi hF)⟩
theorem Hw.opNew [NT T] {F : List Addr} (h : Hw K L T0 Ts H) (i : Nat) (hi : Ts[i]? = some T) (m : MvF F H H') (hF : ∀ a ∈ F, a ∈ T.ft ∨ H a = none) (hp : T'.P H') (hf : ∀ a ∈ T'.ft, a ∈ T.ft ∨ H a = none) (hn : N.P H') (hnf : ∀ a ∈ N.ft, H a = none ∧ a ∉ T'.ft) : Hw K L T0 (N :: Ts.set i T') H' :=
  ⟨h.hs.opNew i hi m hF hp hf hn hnf, h.tf.mvf m (h.noF i hi hF)⟩
theorem Hw.mv (h : Hw K L T0 (tB b :: Ts) H) (m : Mv b.1 H H') (g : Bag b H') : Hw K L T0 (tB b :: Ts) H' :=
  h.op (T := tB b) (T' := tB b) 0 rfl (mvf_bag m g) (fun a ha => .inl ha) g (fun a ha => .inl ha)
theorem Hw.newM (h : Hw K L T0 (tB b :: Ts) H) (m : Mv b.1 H H') (g : Bag b H') (n : H p = none) (e : H' p = some o) (pl : plain o := by exact trivial) : Hw K L T0 (tB b :: tO p o :: Ts) H' :=
  ⟨h.hs.newM m g n e pl, h.tf.mvf (mvf_bag m g) (h.noF (T := tB b) 0 rfl (fun a ha => .inl ha))⟩
theorem Hw.newH (h : Hw K L T0 Ts H) (s : Same H H') (n : H p = none) (e : H' p = some o) (pl : plain o := by exact trivial) : Hw K L T0 (tO p o :: Ts) H' := ⟨h.hs.newH s n e pl, h.tf.same s⟩
theorem Hw.newHU (h : Hw K L T0 Ts H) (n : H p = none) (pl : plain o := by exact trivial) : Hw K L T0 (tO p o :: Ts) (upd H p o) := ⟨h.hs.newHU n pl, h.tf.same (same_upd n)⟩
theorem Hw.newU (h : Hw K L T0 (tB b :: Ts) H) (n : H p = none) (pl : plain o := by exact trivial) : Hw K L T0 (tB b :: tO p o :: Ts) (upd H p o) := ⟨h.hs.newU n pl, h.tf.same (same_upd n)⟩
theorem Hw.new (h : Hw K L T0 Ts H) (s : Same H H') (hp : T.P H') (hf : ∀ a ∈ T.ft, H a = none) : Hw K L T0 (T :: Ts) H' := ⟨h.hs.new s hp hf, h.tf.same s⟩
/-- a new tuple, known from now on -/
theorem Hw.newT (h : Hw K L T0 Ts H) (n : H p = none) : Hw K ((p, xs) :: L) T0 Ts (upd H p (.tup xs)) := (h.same (same_upd n)).know (SqT.of upd_same)
theorem Hw.put (h : Hw K L T0 Ts H) (i : Nat) {xs ys : List V} (hi : Ts[i]? = some (tL p xs)) : Hw K L T0 (Ts.set i (tL p ys)) (upd H p (.lst ys)) :=
  h.op (T := tL p xs) (T' := tL p ys) i hi (F := [p]) ((MvF.refl [p] H).upd (.head _)) (fun a ha => .inl ha) ⟨upd_same, trivial⟩ (fun a ha => .inl ha)
theorem Hw.merge {A B C : Th} (h : Hw K L T0 (A :: B :: Ts) H) (hp : C.P H) (hf : ∀ a ∈ C.ft, a ∈ A.ft ∨ a ∈ B.ft) : Hw K L T0 (C :: Ts) H := ⟨h.hs.merge hp hf, h.tf⟩
end
section
variable {α : Type} {K : PySem.W.Frag} {L : List (Addr × List V)} {T0 : List (Addr × Str)} {Ts : List Th} {Y : List α} {f : α → Th} {i j : Nat} {y y' z : α} {H H' : Hp} {N : Th}
theorem Hw.gget (h : Hw K L T0 Ts H) (i : Nat) (hi : Ts[i]? = some (tG (Y.map f))) (hj : Y[j]? = some y) : (f y).P H := h.hs.gget i hi hj
theorem Hw.gset [∀ y, NT (f y)] {F : List Addr} (h : Hw K L T0 Ts H) (i : Nat) (hi : Ts[i]? = some (tG (Y.map f))) (hj : Y[j]? = some y) (m : MvF F H H') (hF : ∀ a ∈ F, a ∈ (f y).ft ∨ H a = none) (hp : (f y').P H') (hf : ∀ a ∈ (f y').ft, a ∈ (f y).ft ∨ H a = none) : Hw K L T0 (Ts.set i (tG ((Y.set j y').map f))) H' :=
  ⟨h.hs.gset i hi hj m hF hp hf, h.tf.mvf m (h.noF (T := tG (Y.map f)) i hi (fun a ha => (hF a ha).imp (fun x => mem_tG.mpr ⟨y, List.mem_of_getElem? hj, x⟩) id))⟩
theorem Hw.gsetN [∀ y, NT (f y)] {F : List Addr} (h : Hw K L T0 Ts H) (i : Nat) (hi : Ts[i]? = some (tG (Y.map f))) (hj : Y[j]? = some y) (m : MvF F H H') (hF : ∀ a ∈ F, a ∈ (f y).ft ∨ H a = none) (hp : (f y').P H') (hf : ∀ a ∈ (f y').ft, a ∈ (f y).ft ∨ H a = none) (hn : N.P H') (hnf : ∀ a ∈ N.ft, H a = none ∧ a ∉ (f y').ft) : Hw K L T0 (N :: Ts.set i (tG ((Y.set j y').map f))) H' :=
  ⟨h.hs.gsetN i hi hj m hF hp hf hn hnf, h.tf.mvf m (h.noF (T := tG (Y.map f)) i hi (fun a ha => (hF a ha).imp (fun x => mem_tG.mpr ⟨y, List.mem_of_getElem? hj, x⟩) id))⟩
theorem Hw.gadd (h : Hw K L T0 (f z :: tG (Y.map f) :: Ts) H) : Hw K L T0 (tG ((Y ++ [z]).map f) :: Ts) H := ⟨h.hs.gadd, h.tf⟩
theorem Hw.gnil (h : Hw K L T0 Ts H) : Hw K L T0 (tG (([] : List α).map f) :: Ts) H := ⟨h.hs.gnil, h.tf⟩
end
theorem sqT_updI {K : PySem.W.Frag} {H : Hp} {r C dx t : Addr} {fs : List (Str × V)} {o : HO} {xs : List V} (e : H r = some (.ins C dx fs)) (h : SqT K H t xs) : SqT K (upd H r o) t xs := sqT_keep (fun u eu n => by
  rw [upd_ne (fun z => ?_)]
  · exact eu
  · rw [z, e] at eu
    cases eu
    exact n trivial) h
theorem sqK_updI {K : PySem.W.Frag} {H : Hp} {r C dx t : Addr} {fs : List (Str × V)} {o : HO} {k : Bool} {xs : List V} (e : H r = some (.ins C dx fs)) (h : SqK K k H t xs) : SqK K k (upd H r o) t xs := by
  cases k with
  | false => exact sqT_updI e h
  | true =>
    refine lk_l (lk_mv (b := r) (Mv.refl r H).upd ?_) h
    intro u eu
    rw [e] at eu
    cases eu
    rintro (⟨_, z⟩ | ⟨_, z⟩ | ⟨_, _, z⟩) <;> cases z
theorem ix_by {K : PySem.W.Frag} {k : Bool} {H : Hp} {a : Addr} {xs : List V} {i : Int} {v : V} {Q : VK} (h : SqK K k H a xs) (e : atI xs i = some v) (q : Q v H) : rIx K (.ref a) (.int i) H Q := by
  cases k with
  | true => exact .inl ⟨a, _, _, _, rfl, rfl, h, e, q⟩
  | false => exact .inr (.inl ⟨a, _, _, _, rfl, rfl, h, e, q⟩)
theorem SqK.or {K : PySem.W.Frag} {k : Bool} {H : Hp} {a : Addr} {xs : List V} (h : SqK K k H a xs) : SqL K H a xs ∨ SqT K H a xs := by
  cases k with
  | true => exact .inl h
  | false => exact .inr h
theorem made_none {H : Hp} {x dx l : Addr} {o o' : HO} (h : upd (upd H dx o') x o l = none) : H l = none := by
  by_cases z : l = x
  · rw [z, upd_same] at h
    cases h
  by_cases y : l = dx
  · rw [upd_ne z, y, upd_same] at h
    cases h
  rw [upd_ne z, upd_ne y] at h
  exact h
theorem made_same {H H2 : Hp} {x dx : Addr} {o o' : HO} (nx : H x = none) (ndx : H dx = none) (m : MvF [x] (upd (upd H dx o') x o) H2) : Same H H2 := fun a u e => by
  refine m.kp a u (fun z => ne_of_none e nx (in1 z)) ?_
  rw [upd_ne (ne_of_none e nx), upd_ne (ne_of_none e ndx)]
  exact e
/-! ### makers with arguments by place -/
def CalNX (P : Program) (w : World) (K : PySem.W.Frag) (mg : Str → Option Value) (base : Heap) (k : Nat) (nm : Str) (C : Addr) (ps : List Str) (sp : Sp) : Prop :=
  ∃ (f : Addr) (fd : FuncData), Mk K C f ∧ FnOk P w K mg base (L2.CX P w) k f fd ps sp ∧ mg nm = some (.ref C) ∧ Binds K fd ps []
theorem CalNX.mono {P : Program} {w : World} {K : PySem.W.Frag} {mg : Str → Option Value} {base : Heap} {j k : Nat} {nm : Str} {C : Addr} {ps : List Str} {sp : Sp} (c : CalNX P w K mg base j nm C ps sp) (h : j ≤ k) : CalNX P w K mg base k nm C ps sp := by
  obtain ⟨f, fd, a, b, d, e⟩ := c
  exact ⟨f, fd, a, b.mono h, d, e⟩
section
variable {X : Cx} {k : Nat} {C : Addr} {ps : List Str} {sp : Sp} {E : XK} {nm : Str} {p pos : Pos} {e : Expr} {es : List Expr} {t : TA}
theorem pe_makeX (c : CalNX X.prog X.w X.K X.mg X.base k nm C ps sp) (hr : Room (k + 1) X.A) (hx : Passes (L2.CX X.prog X.w) X E) (hg : Gl X nm) (ha : PA X (e :: es) t) (hdb : (nm == ("__debug__" : Str)) = false := by decide)
    (he : starEach (e :: es) X.env = (false, eval e X.env) :: starEach es X.env := by rfl) (hpl : (backTo pos (starEach es X.env)).any (·.1) = false := by rfl) : PE X (.Call (.Name nm p) (e :: es) [] pos) (tMake C sp [] E t) := by
  obtain ⟨f, fd, a, b, d, q⟩ := c
  exact pe_make a b hr hg d q .nil hx ha hdb he hpl
theorem pe_makeXF (c : CalNX X.prog X.w X.K X.mg X.base k nm C ps sp) (hr : Room (k + 1) X.A) (hg : Gl X nm) (ha : PA X (e :: es) t) (hdb : (nm == ("__debug__" : Str)) = false := by decide)
    (he : starEach (e :: es) X.env = (false, eval e X.env) :: starEach es X.env := by rfl) (hpl : (backTo pos (starEach es X.env)).any (·.1) = false := by rfl) : PE X (.Call (.Name nm p) (e :: es) [] pos) (tMake C sp [] E0 t) := pe_makeX c hr passL hg ha hdb he hpl
end
section
variable {X : Cx} (K : PySem.W.Frag)
def rSlAny (K : PySem.W.Frag) : V → Option Int → Option Int → Hp → VK → Prop := fun x lo hi H Q => rSlL K x lo hi H Q ∨ rSlA K x lo hi H Q
theorem sl_anyK (h : X.K = K) : SlR X (rSlAny K) := by
  subst h
  intro pins s σ H x v vl vu lo hi sl Q I rx hs pl pu h
  rcases h with h | h
  · exact sl_list pins s σ H x v vl vu lo hi sl Q I rx hs pl pu h
  · exact sl_tupA pins s σ H x v vl vu lo hi sl Q I rx hs pl pu h
end
end WB
namespace WB
open PySem PySem.Spec PyProof.Rows L2
/-! ### methods with keyword-only parameters: n by place behind the thing itself, keywords ks -/
def tMethN (C : Addr) (m : Str) (n j : Nat) (sp : Sp) (gV : List V → List V → List V) (E : XK) (ta : TE) (t tk : TA) : TE := fun σ H Q => ta σ H fun x H1 => ∃ (a dx : Addr) (fs : List (Str × V)), x = .ref a ∧ H1 a = some (.ins C dx fs) ∧ fs.lookup m = none ∧
  t σ H1 fun vs H2 => tk σ H2 fun zs H3 => vs.length = n ∧ zs.length = j ∧ sp (gV (.ref a :: vs) zs) H3 Q E
def CalMW (P : Program) (w : World) (K : PySem.W.Frag) (mg : Str → Option Value) (base : Heap) (k : Nat) (C : Addr) (m : Str) (ps : List Str) (n : Nat) (ks : List Str) (gV : List V → List V → List V) (sp : Sp) : Prop :=
  ∃ (f : Addr) (fd : FuncData) (g : List Value → List Value → List Value), Cls K C ∧ Meth K C m f ∧ FnOk P w K mg base (L2.CX P w) k f fd ps sp ∧ KBn K fd ps (n + 1) ks g gV
theorem CalMW.mono {P : Program} {w : World} {K : PySem.W.Frag} {mg : Str → Option Value} {base : Heap} {j k n : Nat} {C : Addr} {m : Str} {ps ks : List Str} {gV : List V → List V → List V} {sp : Sp} (c : CalMW P w K mg base j C m ps n ks gV sp) (h : j ≤ k) : CalMW P w K mg base k C m ps n ks gV sp := by
  obtain ⟨f, fd, g, a, b, d, e⟩ := c
  exact ⟨f, fd, g, a, b, d.mono h, e⟩
/-- the keyword-only ones left out -/
def CalMD (P : Program) (w : World) (K : PySem.W.Frag) (mg : Str → Option Value) (base : Heap) (k : Nat) (C : Addr) (m : Str) (ps : List Str) (dvs : List V) (sp : Sp) : Prop :=
  ∃ (f : Addr) (fd : FuncData) (ds : List Value), Cls K C ∧ Meth K C m f ∧ FnOk P w K mg base (L2.CX P w) k f fd ps sp ∧ Binds K fd ps ds ∧ Vals dvs ds
theorem CalMD.mono {P : Program} {w : World} {K : PySem.W.Frag} {mg : Str → Option Value} {base : Heap} {j k : Nat} {C : Addr} {m : Str} {ps : List Str} {dvs : List V} {sp : Sp} (c : CalMD P w K mg base j C m ps dvs sp) (h : j ≤ k) : CalMD P w K mg base k C m ps dvs sp := by
  obtain ⟨f, fd, g, a, b, d, e⟩ := c
  exact ⟨f, fd, g, a, b, d.mono h, e⟩
section
variable {X : Cx} {k n : Nat} {C : Addr} {m : Str} {ps ks : List Str} {sp : Sp} {E : XK} {pos apos : Pos} {e o : Expr} {es : List Expr} {kws : List Keyword} {ta : TE} {t tk : TA} {gV : List V → List V → List V} {dvs : List V} {pl : Sem Bool}
theorem pe_methW (ho : PE X o ta) (c : CalMW X.prog X.w X.K X.mg X.base k C m ps n ks gV sp) (hr : Room k X.A) (hx : Passes (L2.CX X.prog X.w) X E) (ha : PA X (e :: es) t) (hkw : PK X kws tk)
    (hall : (backToKw pos (keywordEach kws X.env)).all (·.1.isSome) = true := by rfl) (hks : (backToKw pos (keywordEach kws X.env)).filterMap (·.1) = ks := by rfl) (he : starEach (e :: es) X.env = (false, eval e X.env) :: starEach es X.env := by rfl)
    (hpl : ((backTo pos (starEach (e :: es) X.env)).any (·.1) || (backToKw pos (keywordEach kws X.env)).any (·.1.isNone)) = false := by rfl)
    (ht : eval (.Call (.Attribute o m apos) (e :: es) kws pos) X.env = (do
      let ov ← eval o X.env
      standAt apos.atName
      let (f, first) ← holding [ov] (getMethod ov m pl)
      callWith pos f first (backTo pos (starEach (e :: es) X.env)) (backToKw pos (keywordEach kws X.env))) := by rfl) :
    PE X (.Call (.Attribute o m apos) (e :: es) kws pos) (tMethN C m n ks.length sp gV E ta t tk) := by
  obtain ⟨f, fd, g, hc, hm, F, hb⟩ := c
  refine ⟨fun pins s σ H Q I h => ?_⟩
  refine PySem.W.methodCall_KW (pl := pl) (thn (ho.run pins s σ H _ I h) fun u s1 y => ?_) ht
  obtain ⟨x, H1, I1, rx, a, dx, fs, rfl, ea, l, q⟩ := y
  obtain rfl : u = Value.ref a := rx
  refine getmeth_ok I1 ea hc hm l ?_
  refine PySem.W.callWith_KW (first := [.ref a]) (h₀ := X.base) I.ok.mod.kin hm.kp hall (thn (ha.run pos pins s1 σ H1 _ I1 q) fun us s2 y => ?_) hpl he
  obtain ⟨vs, H2, I2, r, q2⟩ := y
  refine thn (hkw.run pos pins s2 σ H2 _ I2 q2) fun ws s3 y => ?_
  obtain ⟨zs, H3, I3, rz, l1, l2, q3⟩ := y
  refine ⟨I3.kIn, ?_⟩
  rw [hks]
  exact run_fnN (us := .ref a :: us) (vs := .ref a :: vs) F hr hb hx I3 (.cons rfl r) rz (congrArg (· + 1) l1) l2 q3
theorem pe_methWF (ho : PE X o ta) (c : CalMW X.prog X.w X.K X.mg X.base k C m ps n ks gV sp) (hr : Room k X.A) (ha : PA X (e :: es) t) (hkw : PK X kws tk)
    (hall : (backToKw pos (keywordEach kws X.env)).all (·.1.isSome) = true := by rfl) (hks : (backToKw pos (keywordEach kws X.env)).filterMap (·.1) = ks := by rfl) (he : starEach (e :: es) X.env = (false, eval e X.env) :: starEach es X.env := by rfl)
    (hpl : ((backTo pos (starEach (e :: es) X.env)).any (·.1) || (backToKw pos (keywordEach kws X.env)).any (·.1.isNone)) = false := by rfl)
    (ht : eval (.Call (.Attribute o m apos) (e :: es) kws pos) X.env = (do
      let ov ← eval o X.env
      standAt apos.atName
      let (f, first) ← holding [ov] (getMethod ov m pl)
      callWith pos f first (backTo pos (starEach (e :: es) X.env)) (backToKw pos (keywordEach kws X.env))) := by rfl) :
    PE X (.Call (.Attribute o m apos) (e :: es) kws pos) (tMethN C m n ks.length sp gV E0 ta t tk) := pe_methW ho c hr passL ha hkw hall hks he hpl ht
theorem pe_methD (ho : PE X o ta) (c : CalMD X.prog X.w X.K X.mg X.base k C m ps dvs sp) (hr : Room k X.A) (hx : Passes (L2.CX X.prog X.w) X E) (ha : PA X (e :: es) t) (hs : starEach (e :: es) X.env = (false, eval e X.env) :: starEach es X.env := by rfl) (hpl : (backTo pos (starEach es X.env)).any (·.1) = false := by rfl)
    (hc : eval (.Call (.Attribute o m apos) (e :: es) [] pos) X.env = (do
      let ov ← eval o X.env
      standAt apos.atName
      let (f, first) ← holding [ov] (getMethod ov m pl)
      callWith pos f first (backTo pos (starEach (e :: es) X.env)) (backToKw pos (keywordEach [] X.env))) := by rfl) : PE X (.Call (.Attribute o m apos) (e :: es) [] pos) (tMeth C m sp dvs E ta t) := by
  obtain ⟨f, fd, ds, a, b, d, g, v⟩ := c
  exact pe_meth ho a b d hr g v hx ha hs hpl hc
theorem pe_methDF (ho : PE X o ta) (c : CalMD X.prog X.w X.K X.mg X.base k C m ps dvs sp) (hr : Room k X.A) (ha : PA X (e :: es) t) (hs : starEach (e :: es) X.env = (false, eval e X.env) :: starEach es X.env := by rfl) (hpl : (backTo pos (starEach es X.env)).any (·.1) = false := by rfl)
    (hc : eval (.Call (.Attribute o m apos) (e :: es) [] pos) X.env = (do
      let ov ← eval o X.env
      standAt apos.atName
      let (f, first) ← holding [ov] (getMethod ov m pl)
      callWith pos f first (backTo pos (starEach (e :: es) X.env)) (backToKw pos (keywordEach [] X.env))) := by rfl) : PE X (.Call (.Attribute o m apos) (e :: es) [] pos) (tMeth C m sp dvs E0 ta t) := pe_methD ho c hr passL ha hs hpl hc
end
theorem pi_revAK {X : Cx} (K : PySem.W.Frag) (hKK : X.K = K) {tg e : Expr} {te : TE} {p pos : Pos} (hg : Gl X "reversed") (hm : X.mg "reversed" = none) (he : PE X e te) (hs : starEach [e] X.env = (false, eval e X.env) :: starEach [] X.env := by rfl) : PI X tg (.Call (.Name "reversed" p) [e] [] pos) (RT.iRevA K te) := by
  subst hKK
  exact RT.pi_revA hg hm he hs
theorem walk_revT {K : PySem.W.Frag} {a : Addr} {xs : List V} : Walk (RT.ItvT K a xs.length) xs.length (fun H => SqT K H a xs) (fun i H x H' => H' = H ∧ xs[xs.length - 1 - i]? = some x) := by
  refine ⟨fun i H hi q => ⟨hi, xs, ?_⟩, fun _ _ => Nat.le_refl _, fun i H x H' _ q y => ⟨y.1, y.2 xs q⟩⟩
  obtain ⟨x, hx⟩ := getElem?_ex (show xs.length - 1 - i < xs.length by omega)
  exact ⟨x, q, hx⟩
/-! ### how keywords are bound: ks as written, ms those that lack (their defaults), pm puts both in the parameters' order -/
section
variable {K : PySem.W.Frag} {x qual : Str} {params : Arguments} {body : List Stmt} {scope : Scope} {kws : List (Str × V)} {f : Addr} {fd : FuncData} {ps : List Str}
/-- the i-th of both rows, one behind the other -/
def pickL {α : Type} (l : List α) : List Nat → List α
  | [] => []
  | i :: r => match l[i]? with
    | some x => x :: pickL l r
    | none => pickL l r
theorem vals_pick {vs : List V} {us : List Value} (h : Vals vs us) : ∀ is : List Nat, Vals (pickL vs is) (pickL us is)
  | [] => .nil
  | i :: r => by
    unfold pickL
    cases e : us[i]? with
    | none =>
      have e2 : vs[i]? = none := by
        rw [List.getElem?_eq_none_iff] at e ⊢
        have := h.length
        omega
      rw [e2]
      exact vals_pick h r
    | some u =>
      obtain ⟨y, hy, ry⟩ := vals_at h e
      rw [hy]
      exact .cons ry (vals_pick h r)
theorem kbn_pick (F : FunD K x qual params body scope [] kws f fd) (n : Nat) (ks : List Str) (ms : List (Str × V)) (is : List Nat) (hk : kws ≠ []) (hms : ∀ q ∈ ms, q ∈ kws)
    (h : ∀ (D : Addr) (doc pm : Value) (an : Option Addr) (cdv ct : Value) (us mv ws : List Value), us.length = n → mv.length = ms.length → ws.length = ks.length →
      KwChain D ((ms.map (·.1)).zip mv) (bindArgs (PySem.W.fnOf x qual params body scope .none (.ref D) doc pm an cdv ct) ⟨us, ks.zip ws⟩) (ps.zip (us ++ pickL (ws ++ mv) is))) :
    ∃ g, KBn K fd ps n ks g (fun vs zs => vs ++ pickL (zs ++ ms.map (·.2)) is) := by
  obtain ⟨mv, hb⟩ := F.kbinds0 (ps := ps) n ks ms (fun {α} us mv ws => us ++ pickL (ws ++ mv) is) hk hms (fun r1 r2 r3 => r1.append (vals_pick (r3.append r2) is)) h
  exact ⟨_, hb⟩
end
end WB
namespace WB
open PySem PySem.Spec PyProof.Rows L2
/-! ### a comparison of two instances of one class by the class's own def, whatever it tells -/
def rOwnI (C : Addr) (sp : Sp) (E : XK) : R2 := fun x y H Q => ∃ a dx fs b dy gs, x = .ref a ∧ y = .ref b ∧ H a = some (.ins C dx fs) ∧ H b = some (.ins C dy gs) ∧ sp [x, y] H Q E
section
variable {X : Cx} {CX : CXT} {C g : Addr} {n : Nat} {sp : Sp} {E : XK}
theorem op_ownI {op : CmpOp} (hop : ∀ a b, compareOp op a b = richCompare op a b) (hs : PySem.W.findIn X.K (.ref C) (cmpInfo op).2.1 = some (some (.ref g))) (hf : PySem.W.isFn X.K (.ref g) = true) (F : FnR X.prog X.w X.K X.mg X.base CX n g sp)
    (hr : Room n X.A) (hx : Passes CX X E) : OpR X (compareOp op) (rOwnI C sp E) := by
  intro pins s σ H x y v u Q I rx ry h
  obtain ⟨a, dx, fs, b, dy, gs, rfl, rfl, ha, hb, q⟩ := h
  cases (show v = Value.ref a from rx)
  cases (show u = Value.ref b from ry)
  obtain ⟨mA, J, _⟩ := ins_get I.hok ha
  obtain ⟨mB, J', _⟩ := ins_get I.hok hb
  obtain ⟨od, J, _⟩ := J.look
  obtain ⟨od', J', _⟩ := J'.look
  obtain ⟨m, hF⟩ := I.fr
  rw [hop]
  refine PySem.W.cmp_K (op := op) (tb := .ref C) hr.units0 hF I.ok.mod.kin J J'.type (by simp [PySem.W.notFirst]) hs hf ?_
  refine wpAny_mono (wpAny_call (run_fnR (us := [.ref a, .ref b]) (vs := [.ref a, .ref b]) F hr hx I (.cons rfl (.cons rfl .nil)) q)) (fun w s' z => ?_) fun _ _ x => x
  obtain ⟨z', H', I', rz, qz⟩ := z
  exact SlX.cmpback rz ⟨z', H', I', rz, qz⟩
theorem op_eqI (hs : PySem.W.findIn X.K (.ref C) "__eq__" = some (some (.ref g))) (hf : PySem.W.isFn X.K (.ref g) = true) (F : FnR X.prog X.w X.K X.mg X.base CX n g sp) (hr : Room n X.A) (hx : Passes CX X E) : OpR X (compareOp .Eq) (rOwnI C sp E) :=
  op_ownI (fun _ _ => rfl) hs hf F hr hx
end
end WB
namespace WB
open PySem PySem.Spec PyProof.Rows L2 Builtin
section
variable {M : Model} {A : Around} {E : Value → Shared → Prop} {s : Shared} {K : PySem.W.Frag} {x C : Addr} {ox : Obj} {od : Option Obj}
theorem ifBound_objNe {args : List Value} {Q : Option Value → Shared → Prop} (X : K.In s.heap) (I : PySem.W.InstAt s.heap x ox C od) (hs : PySem.W.findIn K (.ref C) "__ne__" = some (some (.builtin "object.__ne__")))
    (h : wpAny M A (call (.builtin "object.__ne__") (.ref x :: args)) (fun v => Q (some v)) E s) : wpAny M A (callSpecialIfBound? (.ref x) "__ne__" args) Q E s := by
  simp only [callSpecialIfBound?, bindSpecialIfBound?]
  refine wpAny_holding (wpAny_bind (wpAny_bind (wpAny_bind (I.type.here ((PySem.W.looks_findIn X hs).here ?_)))))
  refine wpAny_bind (wpAny_askSetting (wpAny_ite ?_))
  have fin : wpAny M A (call (.builtin "object.__ne__") ([.ref x] ++ args) >>= fun v => pure (some v)) Q E s := wpAny_bind (wpAny_mono h (fun v s' h' => wpAny_pure h') fun _ _ h' => h')
  split
  · exact wpAny_bind (wpAny_of_eq (F.cmp_object.ne.bind _) (wpAny_pure (by exact fin)))
  · exact wpAny_tryCatch (wpAny_bind (wpAny_of_eq (F.cmp_object.ne.bind _) (wpAny_pure (by exact fin))))
end
section
variable {prog : Program} {w : World} {A : Around} {E : Value → Shared → Prop} {s : Shared} {K : PySem.W.Frag} {x b C f : Addr} {ox : Obj} {od : Option Obj}
theorem call_objNe {Q : Value → Shared → Prop} (hu : A.in1.units < cLine) (X : K.In s.heap) (I : PySem.W.InstAt s.heap x ox C od) (hm : PySem.W.mroIn K C (.type "object") = some true)
    (hs : PySem.W.findIn K (.ref C) "__eq__" = some (some (.ref f))) (hf : PySem.W.isFn K (.ref f) = true)
    (h : wpAny (model prog w) A.in1 (call (.ref f) [.ref x, .ref b]) (fun v s' => ∃ t, v = .bool t ∧ Q (.bool (!t)) s') E s) :
    wpAny (model prog w) A (call (.builtin "object.__ne__") [.ref x, .ref b]) Q E s := by
  refine wpAny_call (codeAny_call_builtin F.cmp_object.ne.plain F.cmpEntry_ne (PySem.W.check_slot F.cmpKind_ne F.cmpSplit_ne (I.type.andThen (PySem.W.looks_mroIn X hm)) (F.cmpArgs_ne _ _) ?_))
  unfold Builtin.«object.__ne__»
  repeat (first | with_reducible refine wpAny_cRoomFor hu ?_ | with_reducible refine PySem.W.ifBound_K X I hs hf (wpAny_mono h (fun v s' hv => ?_) fun _ _ e => e) | wp_step)
  obtain ⟨t, rfl, q⟩ := hv
  exact wpAny_bind (wpAny_truthy_bool (wpAny_pure q))
/-- != of two instances of a class with an own ==: it asks that, and turns the answer round -/
theorem ne_K {Q : Value → Shared → Prop} (hu : A.units < cLine) (hu1 : A.in1.units < cLine) (X : K.In s.heap) (I : PySem.W.InstAt s.heap x ox C od) (hb : PySem.W.Looks (model prog w) s.heap (typeOf (.ref b)) (.ref C))
    (hne : PySem.W.findIn K (.ref C) "__ne__" = some (some (.builtin "object.__ne__"))) (hm : PySem.W.mroIn K C (.type "object") = some true) (hs : PySem.W.findIn K (.ref C) "__eq__" = some (some (.ref f))) (hf : PySem.W.isFn K (.ref f) = true)
    (h : wpAny (model prog w) A.in1 (call (.ref f) [.ref x, .ref b]) (fun v s' => ∃ t, v = .bool t ∧ Q (.bool (!t)) s') E s) : wpAny (model prog w) A (richCompare .NotEq (.ref x) (.ref b)) Q E s := by
  have one : wpAny (model prog w) A (tryCompare (.ref x) (cmpInfo .NotEq).2.1 (.ref b)) (fun r s' => ∃ v, r = some v ∧ Q v s') E s := by
    unfold tryCompare
    refine wpAny_bind (ifBound_objNe X I hne (call_objNe hu1 X I hm hs hf (wpAny_mono h (fun v s' hv => ?_) fun _ _ e => e)))
    obtain ⟨t, rfl, q⟩ := hv
    exact ⟨t, rfl, wpAny_pure ⟨_, rfl, q⟩⟩
  unfold richCompare
  simp only [oneThing_ref]
  refine wpAny_holding (wpAny_bind (wpAny_cRoomFor hu ?_))
  refine wpAny_bind (I.type.here (wpAny_bind (hb.here ?_)))
  split
  · rename_i q
    simp at q
  · refine wpAny_bind (wpAny_pure ?_)
    simp only [Bool.false_eq_true, if_false]
    refine wpAny_bind (wpAny_mono one (fun r s' z => ?_) fun _ _ e => e)
    obtain ⟨v, rfl, hq⟩ := z
    exact wpAny_pure hq
end
def rNeI (C : Addr) (sp : Sp) (E : XK) : R2 := fun x y H Q => ∃ a dx fs b dy gs, x = .ref a ∧ y = .ref b ∧ H a = some (.ins C dx fs) ∧ H b = some (.ins C dy gs) ∧ sp [x, y] H (fun v H' => ∃ t, v = .bl t ∧ Q (.bl (!t)) H') E
section
variable {X : Cx} {CX : CXT} {C g : Addr} {n : Nat} {sp : Sp} {E : XK}
theorem op_neI (hne : PySem.W.findIn X.K (.ref C) "__ne__" = some (some (.builtin "object.__ne__"))) (hm : PySem.W.mroIn X.K C (.type "object") = some true) (hs : PySem.W.findIn X.K (.ref C) "__eq__" = some (some (.ref g))) (hf : PySem.W.isFn X.K (.ref g) = true)
    (F : FnR X.prog X.w X.K X.mg X.base CX n g sp) (hr : Room (n + 1) X.A) (hx : Passes CX X E) : OpR X (compareOp .NotEq) (rNeI C sp E) := by
  intro pins s σ H x y v u Q I rx ry h
  obtain ⟨a, dx, fs, b, dy, gs, rfl, rfl, ha, hb, q⟩ := h
  cases (show v = Value.ref a from rx)
  cases (show u = Value.ref b from ry)
  obtain ⟨mA, J, _⟩ := ins_get I.hok ha
  obtain ⟨mB, J', _⟩ := ins_get I.hok hb
  obtain ⟨od, J, _⟩ := J.look
  obtain ⟨od', J', _⟩ := J'.look
  have hr1 : Room n X.A.in1 := Room.in1 hr
  refine ne_K hr.units0 hr1.units0 I.kIn J J'.type hne hm hs hf (wpAny_mono (wpAny_call (SlX.run_at (us := [.ref a, .ref b]) (ws := [.ref a, .ref b]) F hr1 I.env0.in1 hx I (.cons rfl (.cons rfl .nil)) q)) (fun w s' z => ?_) fun _ _ x => x)
  obtain ⟨z', H', I', rz, t, rfl, qz⟩ := z
  cases (show w = Value.bool t from rz)
  exact ⟨t, rfl, .bl (!t), H', I', rfl, qz⟩
end
end WB
namespace WB
open PySem PySem.Spec PyProof.Rows L2
section
variable {X : Cx} (K : PySem.W.Frag)
theorem op_inDK (h : X.K = K) {k : Nat} (hr : Room k X.A) : OpR X (compareOp .In) (rInD K) := by subst h; exact op_inD (by have := hr.un; omega)
theorem op_notInDK (h : X.K = K) {k : Nat} (hr : Room k X.A) : OpR X (compareOp .NotIn) (rNotInD K) := by subst h; exact op_notInD (by have := hr.un; omega)
theorem mt_indexDK (h : X.K = K) {k : Nat} (hr : Room k X.A) : MtR X "list.index" (rIndexD K) := by subst h; exact mt_indexD (by have := hr.un; omega)
theorem op_catAK (h : X.K = K) : OpR X (binaryOp .Add) (rCatA K) := by subst h; exact op_catA
end
/-! ### list.extend of a tuple -/
theorem extend_tup (l : Addr) (items : Array Value) (n : Nat) (b : Addr) (items2 : Array Value) (n2 : Nat) (dd : Option Addr) (sl : Array (Option Value)) (hs0 : ¬(!items.isEmpty && Builtin.List.listTooLong (items.size + items2.size)) = true) (hs1 : items.size ≤ sizeLine) (hs2 : items.size + items2.size ≤ sizeLine + 1) :
    Meets (Builtin.«list.extend» ⟨[.ref l, .ref b], []⟩) (fun _ R s => s.heap.get? l = some { cls := .type "list", dict := none, data := .seq items n, slots := #[] } ∧ s.heap.get? b = some { cls := .type "tuple", dict := dd, data := .seq items2 n2, slots := sl } ∧ R (.ok (.ret Value.none)) { s with heap := s.heap.update l (Obj.mapSeq fun x => x ++ items2), toks := s.toks }) :=
  .of_wp fun prog w A R s h => by
    obtain ⟨hp, g, d, tk, os⟩ := s; obtain ⟨hl, hb, h⟩ := h; have f1 := AutoSeq1.idx_int; have f2 := AutoSeq1.sub_tuple_tuple; have f3 := AutoSeq1.sub_list_list; have f4 := AutoSeq1.sub_tuple_list; have f5 := AutoSeq1.sub_list_tuple;
    have hz' : (items ++ items2).size ≤ sizeLine + 1 := by rw [Array.size_append]; exact hs2
    wp_walk using (wpAny_updateSeq hl rfl (hz := hs1) (_hz' := hz')), AutoSeq1.wpAny_loadPart' hl, AutoSeq1.wpAny_loadPart' hb; exact ⟨_, rfl, h⟩
def rExtendT (K : PySem.W.Frag) : V → List V → Hp → VK → Prop := fun x vs H Q => ∃ l b xs zs, x = .ref l ∧ vs = [.ref b] ∧ H l = some (.lst xs) ∧ SqT K H b zs ∧ xs.length + zs.length ≤ sizeLine ∧ Q .non (upd H l (.lst (xs ++ zs)))
theorem mt_extendTK {X : Cx} (K : PySem.W.Frag) (hK : X.K = K) : MtM X "list.extend" (rExtendT K) := by
  subst hK
  intro pins s σ H x vs v us Q I rx rv h
  obtain ⟨l, b, xs, zs, rfl, rfl, hH, hB, hz, q⟩ := h
  cases rx
  obtain ⟨u, rfl, ru⟩ := rv.one
  cases ru
  obtain ⟨z, its, n, r, hl, e⟩ := I.lstM hH
  obtain ⟨its2, r2, ⟨o, ho, hc, n2, hd⟩, hz2⟩ := I.tuple hB
  obtain ⟨oc, odd, oda, osl⟩ := o
  cases hc
  cases hd
  have l1 := r.length
  have l2 := r2.length
  have hsz : its.toArray.size + its2.toArray.size ≤ sizeLine := by rw [List.size_toArray, List.size_toArray]; omega
  have hlong : ¬ (!its.toArray.isEmpty && Builtin.List.listTooLong (its.toArray.size + its2.toArray.size)) = true := by
    rw [notLongL hsz, Bool.and_false]
    exact Bool.false_ne_true
  refine call_meets F.slot_list_extend ⟨_, e, rfl⟩ F.entry_list_extend (F.args_list_extend_2 _ _)
    (extend_tup l its.toArray n b its2.toArray n2 odd osl hlong (by rw [List.size_toArray]; omega) (by omega)) ⟨e, ho, ?_⟩
  refine ⟨.non, _, I.lset (its' := its ++ its2) hH e (by simp) (r.append r2) ?_, rfl, q⟩
  rw [List.length_append]
  omega
/-- isinstance(x, C) of C's own instances -/
structure IsiC (K : PySem.W.Frag) (C : Addr) : Prop where
  c1 : PySem.W.findIn K (.ref C) "__class__" = some (some (.builtin "object.__class__"))
  c2 : PySem.W.specialIn K (.builtin "object.__class__") "__get__" = some (some (.builtin "getset_descriptor.__get__"))
  c3 : PySem.W.takesIn K (.builtin "object.__class__") = some true
  c4 : PySem.W.mroIn K C (.type "object") = some true
  kt : PySem.W.kitOne K (.ref C) (.ref C) = some true
theorem isi_own {K : PySem.W.Frag} {C r dx : Addr} {fs : List (Str × V)} {H : Hp} (i : IsiC K C) (c : Cls K C) (h : H r = some (.ins C dx fs)) : TyX K H (.ref r) (.ref C) := .base (.ins h c i.c1 i.c2 i.c3 i.c4)
/-- == and != of instances by the class's own == -/
def EqF (P : Program) (w : World) (K : PySem.W.Frag) (mg : Str → Option Value) (base : Heap) (k : Nat) (C : Addr) (sp : Sp) : Prop :=
  ∃ g, PySem.W.findIn K (.ref C) "__eq__" = some (some (.ref g)) ∧ PySem.W.isFn K (.ref g) = true ∧ FnR P w K mg base CX0 k g sp ∧ PySem.W.findIn K (.ref C) "__ne__" = some (some (.builtin "object.__ne__")) ∧ PySem.W.mroIn K C (.type "object") = some true
theorem EqF.mono {P : Program} {w : World} {K : PySem.W.Frag} {mg : Str → Option Value} {base : Heap} {j k : Nat} {C : Addr} {sp : Sp} (c : EqF P w K mg base j C sp) (h : j ≤ k) : EqF P w K mg base k C sp := by
  obtain ⟨g, a, b, d, e⟩ := c
  exact ⟨g, a, b, d.mono h, e⟩
section
variable {X : Cx} {C : Addr} {n : Nat} {sp : Sp}
theorem op_eqO (c : EqF X.prog X.w X.K X.mg X.base n C sp) (hr : Room n X.A) : OpR X (compareOp .Eq) (rOwnI C sp E0) := by
  obtain ⟨g, a, b, d, e⟩ := c
  exact op_eqI a b d hr pass0
theorem op_neO (c : EqF X.prog X.w X.K X.mg X.base n C sp) (hr : Room (n + 1) X.A) : OpR X (compareOp .NotEq) (rNeI C sp E0) := by
  obtain ⟨g, a, b, d, e, h⟩ := c
  exact op_neI e h a b d hr pass0
end
/-! ### len, repr, bool of an instance by the class's own defs -/
def OwnF (P : Program) (w : World) (K : PySem.W.Frag) (mg : Str → Option Value) (base : Heap) (k : Nat) (C : Addr) (m : Str) (sp : Sp) : Prop :=
  ∃ g, PySem.W.findIn K (.ref C) m = some (some (.ref g)) ∧ PySem.W.isFn K (.ref g) = true ∧ FnR P w K mg base CX0 k g sp
theorem OwnF.mono {P : Program} {w : World} {K : PySem.W.Frag} {mg : Str → Option Value} {base : Heap} {j k : Nat} {C : Addr} {m : Str} {sp : Sp} (c : OwnF P w K mg base j C m sp) (h : j ≤ k) : OwnF P w K mg base k C m sp := by
  obtain ⟨g, a, b, d⟩ := c
  exact ⟨g, a, b, d.mono h⟩
def rLenO (C : Addr) (sp : Sp) : List V → Hp → VK → Prop := fun xs H Q => ∃ a dx fs, xs = [V.ref a] ∧ H a = some (.ins C dx fs) ∧ sp [.ref a] H (fun v H' => ∃ n : Int, v = .int n ∧ 0 ≤ n ∧ n < 2 ^ 63 ∧ Q v H') E0
def rReprO (C : Addr) (sp : Sp) : List V → Hp → VK → Prop := fun xs H Q => ∃ a dx fs, xs = [V.ref a] ∧ H a = some (.ins C dx fs) ∧ sp [.ref a] H (fun v H' => ∃ n : Str, v = .str n ∧ Q v H') E0
def rBoolO (C : Addr) (sp : Sp) : List V → Hp → VK → Prop := fun xs H Q => ∃ a dx fs, xs = [V.ref a] ∧ H a = some (.ins C dx fs) ∧ sp [.ref a] H (fun v H' => ∃ n : Int, v = .int n ∧ 0 ≤ n ∧ n < 2 ^ 63 ∧ Q (.bl (n != 0)) H') E0
section
variable {X : Cx} {C : Addr} {n : Nat} {sp : Sp}
theorem call_lenO (c : OwnF X.prog X.w X.K X.mg X.base n C "__len__" sp) (hr : Room (n + 1) X.A) : CallR X (.builtin "len") (rLenO C sp) := by
  intro pins s σ H xs us Q I r h
  obtain ⟨a, dx, fs, rfl, ha, q⟩ := h
  obtain rfl := Vals.ref1 r
  obtain ⟨g, hs, hf, F⟩ := c
  obtain ⟨mA, J, _⟩ := ins_get I.hok ha
  obtain ⟨od, J, _⟩ := J.look
  obtain ⟨m, fr⟩ := I.fr
  have hr1 : Room n X.A.in1 := Room.in1 hr
  refine PySem.W.len_K fr I.ok.mod.kin J hs hf (wpAny_mono (wpAny_call (SlX.run_at (us := [.ref a]) (ws := [.ref a]) F hr1 I.env0.in1 pass0 I (.cons rfl .nil) q)) (fun v s' z => ?_) fun _ _ x => x)
  obtain ⟨z', H', I', rz, i, rfl, h0, h1, qz⟩ := z
  obtain ⟨t, rfl⟩ := (show ∃ t, v = Value.int i t from rz)
  exact ⟨⟨h0, h1⟩, .int i, H', I'.tok _, ⟨_, rfl⟩, qz⟩
theorem call_reprO (c : OwnF X.prog X.w X.K X.mg X.base n C "__repr__" sp) (hr : Room (n + 1) X.A) : CallR X (.builtin "repr") (rReprO C sp) := by
  intro pins s σ H xs us Q I r h
  obtain ⟨a, dx, fs, rfl, ha, q⟩ := h
  obtain rfl := Vals.ref1 r
  obtain ⟨g, hs, hf, F⟩ := c
  obtain ⟨mA, J, _⟩ := ins_get I.hok ha
  obtain ⟨od, J, _⟩ := J.look
  obtain ⟨m, fr⟩ := I.fr
  have hr1 : Room n X.A.in1 := Room.in1 hr
  refine PySem.W.repr_K hr1.units0 fr I.ok.mod.kin J hs hf (wpAny_mono (wpAny_call (SlX.run_at (us := [.ref a]) (ws := [.ref a]) F hr1 I.env0.in1 pass0 I (.cons rfl .nil) q)) (fun v s' z => ?_) fun _ _ x => x)
  obtain ⟨z', H', I', rz, i, rfl, qz⟩ := z
  obtain ⟨t, rfl⟩ := (show ∃ t, v = Value.str i t from rz)
  exact ⟨.str i, H', I', ⟨_, rfl⟩, qz⟩
end
section
variable {prog : Program} {w : World} {A : Around} {E : Value → Shared → Prop} {s : Shared} {K : PySem.W.Frag} {x C f : Addr} {ox : Obj} {od : Option Obj}
theorem len_bodyO {Q : Value → Shared → Prop} (X : K.In s.heap) (I : PySem.W.InstAt s.heap x ox C od) (hs : PySem.W.findIn K (.ref C) "__len__" = some (some (.ref f))) (hf : PySem.W.isFn K (.ref f) = true)
    (h : wpAny (model prog w) A (call (.ref f) [.ref x]) (PySem.W.LenBack Q) E s) : wpAny (model prog w) A (Builtin.«len» ⟨[.ref x], []⟩) (fun fin s' => ∃ r, fin = .done (.ret r) ∧ Q r s') E s := by
  unfold Builtin.«len»
  refine wpAny_bind (m := oneArg "len" _) (wpAny_pure ?_)
  refine wpAny_bind (m := callSpecial? (.ref x) (Str.ofString "__len__")) (PySem.W.special_fn X I hs (beq_iff_eq.mp hf) (wpAny_mono h (fun r s' hr => ?_) fun _ _ y => y))
  cases r <;> first | exact hr.elim | skip
  rename_i n u
  obtain ⟨⟨h0, h1⟩, hq⟩ := hr
  refine wpAny_bind (wpAny_holding (wpAny_pure ?_))
  refine wpAny_bind (wpAny_letGo ?_)
  show wpAny _ _ (if n < 0 then _ else _) _ _ _
  rw [if_neg (by omega)]
  show wpAny _ _ (if n ≥ 2 ^ 63 then _ else _) _ _ _
  rw [if_neg (by omega)]
  exact wpAny_bind (wpAny_mkInt (wpAny_pure ⟨_, rfl, hq⟩))
theorem truthyO {Q : Bool → Shared → Prop} (X : K.In s.heap) (I : PySem.W.InstAt s.heap x ox C od) (hb : PySem.W.findIn K (.ref C) "__bool__" = some none) (hs : PySem.W.findIn K (.ref C) "__len__" = some (some (.ref f))) (hf : PySem.W.isFn K (.ref f) = true)
    (h : wpAny (model prog w) A.in1 (call (.ref f) [.ref x]) (PySem.W.LenBack (fun v s' => ∃ n t, v = .int n t ∧ Q (n != 0) s')) E s) : wpAny (model prog w) A (truthy (.ref x)) Q E s := by
  have key : wpAny (model prog w) A (runValue (.builtin "len" ⟨[.ref x], []⟩)) (fun r s' => ∃ n t, r = .int n t ∧ Q (n != 0) s') E s := by
    refine wpAny_runValue (codeAny_builtin entry_len ?_)
    rw [Around.under_plainId plain_len _]
    exact wpAny_mono (len_bodyO (Q := fun r s' => ∃ n t, r = .int n t ∧ Q (n != 0) s') X I hs hf h) (fun fin s' h' => by obtain ⟨r, rfl, hq⟩ := h'; exact hq) fun _ _ e => e
  have hsp : ∀ {Q' : Option Value → Shared → Prop}, Q' (some (.ref f)) s → wpAny (model prog w) A (specialOf (.ref x) "__len__") Q' E s := fun q => by
    unfold specialOf
    exact wpAny_bind (I.type.here ((PySem.W.looks_findIn X hs).here q))
  have hno : ∀ {Q' : Option Value → Shared → Prop}, Q' none s → wpAny (model prog w) A (callSpecial? (.ref x) (Str.ofString "__bool__")) Q' E s := fun q => by
    unfold callSpecial? specialOf
    exact wpAny_bind (wpAny_bind (I.type.here ((PySem.W.looks_findIn X hb).here (wpAny_pure q))))
  unfold truthy
  first
    | refine wpAny_bind (hno ?_)
    | refine wpAny_bind (wpAny_pure (wpAny_bind (hno ?_)))
  first
    | refine wpAny_bind (hsp ?_)
    | refine wpAny_bind (wpAny_pure (wpAny_bind (hsp ?_)))
  first
    | exact wpAny_bind (wpAny_mono key (fun r s' h' => by obtain ⟨n, t, rfl, hq⟩ := h'; exact wpAny_pure hq) fun _ _ e => e)
    | exact wpAny_bind (wpAny_pure (wpAny_bind (wpAny_mono key (fun r s' h' => by obtain ⟨n, t, rfl, hq⟩ := h'; exact wpAny_pure hq) fun _ _ e => e)))
theorem meets_boolO (x : Addr) : MeetsIn prog w (Builtin.«bool.__new__» ⟨[.type "bool", .ref x], []⟩) (fun A R s => wpAny (model prog w) A.in1 (truthy (.ref x)) (fun b s' => R (.ok (.ret (.bool b))) s') (fun e s' => R (.error e) s') s) :=
  fun A R s hs => by
    obtain ⟨hp, g, d, tk, os⟩ := s
    have f1 := F.conv_sub_bool
    repeat (any_goals (first | assumption | (with_reducible refine wpAny_bind (wpAny_mono hs (fun b s' h => ?_) fun _ _ e => e)) | wp_step))
    all_goals first | exact ⟨_, rfl, h⟩ | exact h | skip
end
section
variable {X : Cx} {C : Addr} {n : Nat} {sp : Sp}
theorem call_boolO (hb : PySem.W.findIn X.K (.ref C) "__bool__" = some none) (c : OwnF X.prog X.w X.K X.mg X.base n C "__len__" sp) (hr : Room (n + 3) X.A) : CallR X (.type "bool") (rBoolO C sp) := by
  intro pins s σ H xs us Q I r h
  obtain ⟨a, dx, fs, rfl, ha, q⟩ := h
  obtain rfl := Vals.ref1 r
  obtain ⟨g, hs, hf, F⟩ := c
  obtain ⟨mA, J, _⟩ := ins_get I.hok ha
  obtain ⟨od, J, _⟩ := J.look
  have hr2 : Room n X.A.in1.in1.in1 := (show Room (n + 1) X.A.in1.in1 from (show Room (n + 2) X.A.in1 from Room.in1 hr).in1).in1
  refine callType_newIn PySem.F.called_bool PySem.F.newNe_bool (PySem.F.typeCall_bool_1 (.ref a)) (PySem.F.newCall_bool_1 (.ref a)) (fun obj => PySem.F.args_object_init_2 obj (.ref a)) PySem.F.entry_bool_new (meets_boolO a) ?_
  refine truthyO I.kIn J hb hs hf (wpAny_mono (wpAny_call (SlX.run_at (us := [.ref a]) (ws := [.ref a]) F hr2 I.env0.in1.in1.in1 pass0 I (.cons rfl .nil) q)) (fun v s' z => ?_) fun _ _ x => x)
  obtain ⟨z', H', I', rz, i, rfl, h0, h1, qz⟩ := z
  obtain ⟨t, rfl⟩ := (show ∃ t, v = Value.int i t from rz)
  exact ⟨⟨h0, h1⟩, i, _, rfl, rfl, .bl (i != 0), H', I'.tok _, rfl, qz⟩
end
end WB
namespace WB
open PySem PySem.Spec PyProof.Rows L2 Builtin
/-! ### == and != of an instance and something else -/
section
variable {prog : Program} {w : World} {A : Around} {E : Value → Shared → Prop} {s : Shared} {K : PySem.W.Frag} {x C f : Addr} {b tb : Value} {ox : Obj} {od : Option Obj}
theorem call_objNeY {Q : Value → Shared → Prop} (hu : A.in1.units < cLine) (X : K.In s.heap) (I : PySem.W.InstAt s.heap x ox C od) (hm : PySem.W.mroIn K C (.type "object") = some true)
    (hs : PySem.W.findIn K (.ref C) "__eq__" = some (some (.ref f))) (hf : PySem.W.isFn K (.ref f) = true)
    (h : wpAny (model prog w) A.in1 (call (.ref f) [.ref x, b]) (fun v s' => ∃ t, v = .bool t ∧ Q (.bool (!t)) s') E s) :
    wpAny (model prog w) A (call (.builtin "object.__ne__") [.ref x, b]) Q E s := by
  refine wpAny_call (codeAny_call_builtin F.cmp_object.ne.plain F.cmpEntry_ne (PySem.W.check_slot F.cmpKind_ne F.cmpSplit_ne (I.type.andThen (PySem.W.looks_mroIn X hm)) (F.cmpArgs_ne _ _) ?_))
  unfold Builtin.«object.__ne__»
  repeat (first | with_reducible refine wpAny_cRoomFor hu ?_ | with_reducible refine PySem.W.ifBound_K X I hs hf (wpAny_mono h (fun v s' hv => ?_) fun _ _ e => e) | wp_step)
  obtain ⟨t, rfl, q⟩ := hv
  exact wpAny_bind (wpAny_truthy_bool (wpAny_pure q))
theorem neY_K {Q : Value → Shared → Prop} (hu : A.units < cLine) (hu1 : A.in1.units < cLine) (X : K.In s.heap) (I : PySem.W.InstAt s.heap x ox C od) (hb : PySem.W.Looks (model prog w) s.heap (typeOf b) tb) (hn : PySem.W.notFirst K C tb = true)
    (hne : PySem.W.findIn K (.ref C) "__ne__" = some (some (.builtin "object.__ne__"))) (hm : PySem.W.mroIn K C (.type "object") = some true) (hs : PySem.W.findIn K (.ref C) "__eq__" = some (some (.ref f))) (hf : PySem.W.isFn K (.ref f) = true)
    (h : wpAny (model prog w) A.in1 (call (.ref f) [.ref x, b]) (fun v s' => ∃ t, v = .bool t ∧ Q (.bool (!t)) s') E s) : wpAny (model prog w) A (richCompare .NotEq (.ref x) b) Q E s := by
  have one : wpAny (model prog w) A (tryCompare (.ref x) (cmpInfo .NotEq).2.1 b) (fun r s' => ∃ v, r = some v ∧ Q v s') E s := by
    unfold tryCompare
    refine wpAny_bind (ifBound_objNe X I hne (call_objNeY hu1 X I hm hs hf (wpAny_mono h (fun v s' hv => ?_) fun _ _ e => e)))
    obtain ⟨t, rfl, q⟩ := hv
    exact ⟨t, rfl, wpAny_pure ⟨_, rfl, q⟩⟩
  unfold richCompare
  simp only [oneThing_ref]
  refine wpAny_holding (wpAny_bind (wpAny_cRoomFor hu ?_))
  refine wpAny_bind (I.type.here (wpAny_bind (hb.here ?_)))
  split
  · rename_i q
    have e : PySem.W.subIn K tb (.ref C) = some false := by
      rcases Bool.or_eq_true_iff.mp hn with e | e
      · rw [beq_iff_eq.mp e] at q; simp at q
      · exact beq_iff_eq.mp e
    refine wpAny_bind ((PySem.W.looks_subIn X e).here ?_)
    simp only [Bool.false_eq_true, if_false]
    refine wpAny_bind (wpAny_mono one (fun r s' z => ?_) fun _ _ e => e)
    obtain ⟨v, rfl, hq⟩ := z
    exact wpAny_pure hq
  · refine wpAny_bind (wpAny_pure ?_)
    simp only [Bool.false_eq_true, if_false]
    refine wpAny_bind (wpAny_mono one (fun r s' z => ?_) fun _ _ e => e)
    obtain ⟨v, rfl, hq⟩ := z
    exact wpAny_pure hq
end
def TyY (H : Hp) : V → Value → Prop := fun y t => (∃ p xs, y = .ref p ∧ H p = some (.lst xs) ∧ t = .type "list") ∨ (∃ x, y = .str x ∧ t = .type "str") ∨ (∃ i, y = .int i ∧ t = .type "int")
theorem tyY_looks {X : Cx} {pins : List (Addr × Obj)} {σ : L2.St} {H : Hp} {s : Shared} {y : V} {u t : Value} (I : Inv X pins σ H s) (ry : RelV y u) (h : TyY H y t) : PySem.W.Looks (model X.prog X.w) s.heap (typeOf u) t := by
  rcases h with ⟨p, xs, rfl, hp, rfl⟩ | ⟨x, rfl, rfl⟩ | ⟨i, rfl, rfl⟩
  · cases (show u = Value.ref p from ry)
    obtain ⟨_, _, n, _, h1⟩ := (show ObjOk X.prog X.w H s.heap p (.lst xs) from I.hok p _ hp)
    exact fun A Q E s' k q => wpAny_typeOf_ref (k _ _ h1) q
  · obtain ⟨t, rfl⟩ := (show ∃ t, u = Value.str x t from ry)
    exact fun A Q E s' k q => wpAny_pure q
  · obtain ⟨t, rfl⟩ := (show ∃ t, u = Value.int i t from ry)
    exact fun A Q E s' k q => wpAny_pure q
def rEqY (K : PySem.W.Frag) (C : Addr) (sp : Sp) : R2 := fun x y H Q => ∃ a dx fs t, x = .ref a ∧ H a = some (.ins C dx fs) ∧ TyY H y t ∧ PySem.W.subIn K t (.ref C) = some false ∧ sp [x, y] H Q E0
def rNeY (K : PySem.W.Frag) (C : Addr) (sp : Sp) : R2 := fun x y H Q => ∃ a dx fs t, x = .ref a ∧ H a = some (.ins C dx fs) ∧ TyY H y t ∧ PySem.W.subIn K t (.ref C) = some false ∧ sp [x, y] H (fun v H' => ∃ t, v = .bl t ∧ Q (.bl (!t)) H') E0
section
variable {X : Cx} {C : Addr} {n : Nat} {sp : Sp} (K : PySem.W.Frag)
theorem op_eqY (hK : X.K = K) (c : EqF X.prog X.w X.K X.mg X.base n C sp) (hr : Room n X.A) : OpR X (compareOp .Eq) (rEqY K C sp) := by
  subst hK
  obtain ⟨g, hs, hf, F, hne, hm⟩ := c
  intro pins s σ H x y v u Q I rx ry h
  obtain ⟨a, dx, fs, t, rfl, ha, ht, hsub, q⟩ := h
  cases (show v = Value.ref a from rx)
  obtain ⟨mA, J, _⟩ := ins_get I.hok ha
  obtain ⟨od, J, _⟩ := J.look
  obtain ⟨m, hF⟩ := I.fr
  show wpAny _ _ (richCompare .Eq (.ref a) u) _ _ _
  refine PySem.W.cmp_K (op := .Eq) (tb := t) hr.units0 hF I.ok.mod.kin J (tyY_looks I ry ht) (by unfold PySem.W.notFirst; rw [hsub]; simp) hs hf ?_
  refine wpAny_mono (wpAny_call (run_fnR (us := [.ref a, u]) (vs := [.ref a, y]) F hr pass0 I (.cons rfl (.cons ry .nil)) q)) (fun w s' z => ?_) fun _ _ x => x
  obtain ⟨z', H', I', rz, qz⟩ := z
  exact SlX.cmpback rz ⟨z', H', I', rz, qz⟩
theorem op_neY (hK : X.K = K) (c : EqF X.prog X.w X.K X.mg X.base n C sp) (hr : Room (n + 1) X.A) : OpR X (compareOp .NotEq) (rNeY K C sp) := by
  subst hK
  obtain ⟨g, hs, hf, F, hne, hm⟩ := c
  intro pins s σ H x y v u Q I rx ry h
  obtain ⟨a, dx, fs, t, rfl, ha, ht, hsub, q⟩ := h
  cases (show v = Value.ref a from rx)
  obtain ⟨mA, J, _⟩ := ins_get I.hok ha
  obtain ⟨od, J, _⟩ := J.look
  have hr1 : Room n X.A.in1 := Room.in1 hr
  refine neY_K (tb := t) hr.units0 hr1.units0 I.kIn J (tyY_looks I ry ht) (by unfold PySem.W.notFirst; rw [hsub]; simp) hne hm hs hf (wpAny_mono (wpAny_call (SlX.run_at (us := [.ref a, u]) (ws := [.ref a, y]) F hr1 I.env0.in1 pass0 I (.cons rfl (.cons ry .nil)) q)) (fun w s' z => ?_) fun _ _ x => x)
  obtain ⟨z', H', I', rz, t', rfl, qz⟩ := z
  cases (show w = Value.bool t' from rz)
  exact ⟨t', rfl, .bl (!t'), H', I', rfl, qz⟩
end
end WB
namespace WB
open PySem PySem.Spec PyProof.Rows L2
/-! ### what a call makes of a thing, and the run of a method within its own things -/
instance : NT (tG []) := ⟨fun H h a ha => by cases ha⟩
instance (T : Th) (Ts : List Th) [i : NT T] [j : NT (tG Ts)] : NT (tG (T :: Ts)) := ⟨fun H h a ha o e => by
  have g : Hs [] (T :: Ts) H := h
  have ha : a ∈ (T :: Ts).flatMap (·.ft) := ha
  rw [List.flatMap_cons] at ha
  rcases List.mem_append.mp ha with q | q
  · exact i.nt H g.head a q o e
  · exact j.nt H g.tail a q o e⟩
instance (r C dx : Addr) (fs : List (Str × V)) : NT (tO r (.ins C dx fs)) := ⟨fun H h b hb o e => by
  rw [in1 hb, h.1] at e
  cases e
  trivial⟩
instance (r : Addr) (ks : List (Key × V)) : NT (tO r (.dK ks)) := ⟨fun H h b hb o e => by
  rw [in1 hb, h.1] at e
  cases e
  trivial⟩
/-- T became these things, all of them of its places or new -/
structure Up (T : Th) (Us : List Th) (H H' : Hp) : Prop where
  mv : MvF T.ft H H'
  nt : ∀ a o, H a = some o → ¬ noT o → H' a = some o
  hs : Hs [] Us H'
  ow : ∀ x ∈ Us, ∀ a ∈ x.ft, a ∈ T.ft ∨ H a = none
theorem nt_of {T : Th} [i : NT T] {H H' : Hp} (h : T.P H) (m : MvF T.ft H H') : ∀ a o, H a = some o → ¬ noT o → H' a = some o := fun a o e n => m.kp a o (fun z => n (i.nt H h a z o e)) e
section
variable {K : PySem.W.Frag} {L : List (Addr × List V)} {T0 : List (Addr × Str)} {Ts Us : List Th} {T : Th} {H H' : Hp}
theorem Hs.upH (h : Hs T0 (T :: Ts) H) (u : Up T Us H H') : Hs T0 (Us ++ Ts) H' := by
  have t : Hs T0 Ts H' := by
    refine ⟨fun i x hi => x.loc H H' (fun a ha o e => u.mv.kp a o (fun z => ?_) e) (h.tail.all i x hi), h.tail.sep, tabs_keep h.tab fun a o e np => u.mv.kp a o (fun z => ?_) e⟩
    · exact h.apart (List.mem_of_getElem? hi) a z ha
    · obtain ⟨o', e1, e2⟩ := T.al H h.head a z
      rw [e1] at e
      cases e
      exact np e2
  refine Hs.app u.hs t (fun x hx y hy a ha hb => ?_)
  rcases u.ow x hx a ha with z | z
  · exact h.apart hy a z hb
  · obtain ⟨i, hi⟩ := List.getElem?_of_mem hy
    exact y.live (h.tail.all i y hi) hb z
theorem Hw.upH (h : Hw K L T0 (T :: Ts) H) (u : Up T Us H H') : Hw K L T0 (Us ++ Ts) H' := ⟨h.hs.upH u, fun p hp => sqT_keep (fun o e n => u.nt _ o e n) (h.tf p hp)⟩
theorem Hw.frontI (h : Hw K L T0 Ts H) (i : Nat) (hi : Ts[i]? = some T) : Hw K L T0 (T :: Ts.eraseIdx i) H := ⟨h.hs.perm (perm_at hi).symm, h.tf⟩
theorem Hw.up (h : Hw K L T0 Ts H) (i : Nat) (hi : Ts[i]? = some T) (u : Up T Us H H') : Hw K L T0 (Us ++ Ts.eraseIdx i) H' := (h.frontI i hi).upH u
/-- only new things came -/
theorem Hw.upN (h : Hw K L T0 Ts H) (u : Up (tG []) Us H H') : Hw K L T0 (Us ++ Ts) H' := Hw.upH (T := tG []) ⟨Hs.group (Ts := []) h.hs, h.tf⟩ u
end
/-- within a call: the own things, what changed since its beginning -/
structure Rn (K : PySem.W.Frag) (H0 : Hp) (F : List Addr) (L : List (Addr × List V)) (Ts : List Th) (H : Hp) : Prop where
  hw : Hw K L [] Ts H
  mv : MvF F H0 H
  nt : ∀ a o, H0 a = some o → ¬ noT o → H a = some o
  ow : ∀ x ∈ Ts, ∀ a ∈ x.ft, a ∈ F ∨ H0 a = none
section
variable {K : PySem.W.Frag} {L L' : List (Addr × List V)} {Ts Us As Bs : List Th} {T T' : Th} {H0 H H' : Hp} {F : List Addr} {a p : Addr} {xs ys : List V} {o o' : HO}
theorem Rn.start {Ts : List Th} (h : (tG Ts).P H) : Rn K H (tG Ts).ft [] Ts H := ⟨.of h, .refl _ _, fun _ _ e _ => e, fun x hx a ha => .inl (List.mem_flatMap.mpr ⟨x, hx, ha⟩)⟩
theorem Rn.start0 : Rn K H [] [] [] H := ⟨.of .nil0, .refl _ _, fun _ _ e _ => e, fun x hx => absurd hx List.not_mem_nil⟩
theorem Rn.at (h : Rn K H0 F L Ts H) (i : Nat) (hi : Ts[i]? = some (tO p o)) : H p = some o := h.hw.at i hi
theorem Rn.get (h : Rn K H0 F L Ts H) (i : Nat) (hi : Ts[i]? = some T) : T.P H := h.hw.get i hi
theorem Rn.tup (h : Rn K H0 F L Ts H) (i : Nat) (hi : L[i]? = some (a, xs)) : SqT K H a xs := h.hw.tup i hi
theorem Rn.same (h : Rn K H0 F L Ts H) (s : Same H H') : Rn K H0 F L Ts H' := ⟨h.hw.same s, h.mv.same s, fun a o e n => s a o (h.nt a o e n), h.ow⟩
theorem Rn.know (h : Rn K H0 F L Ts H) (t : SqT K H a xs) : Rn K H0 F ((a, xs) :: L) Ts H := ⟨h.hw.know t, h.mv, h.nt, h.ow⟩
theorem Rn.knows (h : Rn K H0 F L Ts H) (t : TF K L' H) : Rn K H0 F (L' ++ L) Ts H := ⟨⟨h.hw.hs, fun p hp => (List.mem_append.mp hp).elim (t p) (h.hw.tf p)⟩, h.mv, h.nt, h.ow⟩
theorem Rn.selT (h : Rn K H0 F L Ts H) (hs : ∀ q ∈ L', q ∈ L) : Rn K H0 F L' Ts H := ⟨h.hw.selT hs, h.mv, h.nt, h.ow⟩
theorem mem_pickTs : ∀ {is : List Nat} {x : Th}, x ∈ pickTs Ts is → x ∈ Ts := fun {is x} h => by
  obtain ⟨k, hk⟩ := List.getElem?_of_mem h
  obtain ⟨i, _, q⟩ := mem_pick hk
  exact List.mem_of_getElem? q
theorem Rn.sel (h : Rn K H0 F L Ts H) (is : List Nat) (hn : is.Nodup) : Rn K H0 F L (pickTs Ts is) H := ⟨h.hw.sel is hn, h.mv, h.nt, fun x hx => h.ow x (mem_pickTs hx)⟩
theorem Rn.free (h : Rn K H0 F L Ts H) (n : H p = none) : H0 p = none := h.mv.free n
theorem Rn.keep (h : Rn K H0 F L Ts H) (n : a ∉ F) (e : H0 a = some o) : H a = some o := h.mv.kp a o n e
theorem Rn.keepT (h : Rn K H0 F L Ts H) (e : SqT K H0 a xs) : SqT K H a xs := sqT_keep (fun o e n => h.nt _ o e n) e
theorem sqL_keep {H H' : Hp} (kp : ∀ o, H a = some o → H' a = some o) (h : SqL K H a xs) : SqL K H' a xs := by
  rcases h with (h | ⟨o, h⟩) | h
  · exact .inl (.inl (kp _ h))
  · exact .inl (.inr ⟨o, kp _ h⟩)
  · exact .inr h
theorem Rn.keepL (h : Rn K H0 F L Ts H) (n : a ∉ F) (e : SqL K H0 a xs) : SqL K H a xs := sqL_keep (fun o e => h.mv.kp _ o n e) e
theorem Rn.up (h : Rn K H0 F L Ts H) (i : Nat) (hi : Ts[i]? = some T) (u : Up T Us H H') : Rn K H0 F L (Us ++ Ts.eraseIdx i) H' := by
  have hT := h.ow T (List.mem_of_getElem? hi)
  refine ⟨h.hw.up i hi u, h.mv.trans2 u.mv hT, fun a o e n => u.nt a o (h.nt a o e n) n, fun x hx a ha => ?_⟩
  rcases List.mem_append.mp hx with q | q
  · rcases u.ow x q a ha with z | z
    · exact hT a z
    · exact .inr (h.free z)
  · exact h.ow x (List.mem_of_mem_eraseIdx q) a ha
theorem Rn.upN (h : Rn K H0 F L Ts H) (u : Up (tG []) Us H H') : Rn K H0 F L (Us ++ Ts) H' := by
  refine ⟨h.hw.upN u, h.mv.same u.mv.toSame, fun a o e n => u.nt a o (h.nt a o e n) n, fun x hx a ha => ?_⟩
  rcases List.mem_append.mp hx with q | q
  · rcases u.ow x q a ha with z | z
    · cases z
    · exact .inr (h.free z)
  · exact h.ow x q a ha
theorem up_put {p : Addr} {o o' : HO} (e : H p = some o) (n : noT o) (pl : plain o' := by exact trivial) : Up (tO p o) [tO p o'] H (upd H p o') := by
  have m : MvF [p] H (upd H p o') := (MvF.refl [p] H).upd (.head _)
  refine ⟨m, fun a u eu nu => m.kp a u (fun z => ?_) eu, Hs.nil0.cons ⟨upd_same, pl⟩ (fun j y hj => by cases hj), fun x hx a ha => ?_⟩
  · rw [in1 z, e] at eu
    cases eu
    exact nu n
  · rw [List.mem_singleton.mp hx] at ha
    exact .inl ha
theorem up_new {p : Addr} {o : HO} (n : H p = none) (pl : plain o := by exact trivial) : Up (tG []) [tO p o] H (upd H p o) :=
  ⟨.of (same_upd n), fun a u e _ => same_upd n a u e, Hs.nil0.cons ⟨upd_same, pl⟩ (fun j y hj => by cases hj), fun x hx a ha => by
    rw [List.mem_singleton.mp hx] at ha
    rw [in1 ha]
    exact .inr n⟩
theorem up_newS {p : Addr} {o : HO} (s : Same H H') (n : H p = none) (e : H' p = some o) (pl : plain o := by exact trivial) : Up (tG []) [tO p o] H H' :=
  ⟨.of s, fun a u e _ => s a u e, Hs.nil0.cons ⟨e, pl⟩ (fun j y hj => by cases hj), fun x hx a ha => by
    rw [List.mem_singleton.mp hx] at ha
    rw [in1 ha]
    exact .inr n⟩
theorem Rn.put (h : Rn K H0 F L Ts H) (i : Nat) (hi : Ts[i]? = some (tO p o)) (n : noT o := by exact trivial) (pl : plain o' := by exact trivial) : Rn K H0 F L ([tO p o'] ++ Ts.eraseIdx i) (upd H p o') := h.up i hi (up_put (h.at i hi) n pl)
theorem Rn.newL (h : Rn K H0 F L Ts H) (n : H p = none) : Rn K H0 F L (tL p xs :: Ts) (upd H p (.lst xs)) := h.upN (up_new n)
theorem Rn.newO (h : Rn K H0 F L Ts H) (n : H p = none) (pl : plain o := by exact trivial) : Rn K H0 F L (tO p o :: Ts) (upd H p o) := h.upN (up_new n pl)
theorem Rn.newS (h : Rn K H0 F L Ts H) (s : Same H H') (n : H p = none) (e : H' p = some o) (pl : plain o := by exact trivial) : Rn K H0 F L (tO p o :: Ts) H' := h.upN (up_newS s n e pl)
theorem Rn.newT (h : Rn K H0 F L Ts H) (n : H p = none) : Rn K H0 F ((p, xs) :: L) Ts (upd H p (.tup xs)) := (h.same (same_upd n)).know (SqT.of upd_same)
theorem flat_ft {a : Addr} (ha : a ∈ (tG As).ft) : ∃ x ∈ As, a ∈ x.ft := List.mem_flatMap.mp ha
theorem Rn.grp {As Bs : List Th} (h : Rn K H0 F L (As ++ Bs) H) : Rn K H0 F L (tG As :: Bs) H := ⟨⟨h.hw.hs.group, h.hw.tf⟩, h.mv, h.nt, fun x hx a ha => by
  rcases List.mem_cons.mp hx with q | q
  · rw [q] at ha
    obtain ⟨y, hy, ha⟩ := flat_ft ha
    exact h.ow y (List.mem_append_left _ hy) a ha
  · exact h.ow x (List.mem_append_right _ q) a ha⟩
theorem Rn.ungrp {As Bs : List Th} (h : Rn K H0 F L (tG As :: Bs) H) : Rn K H0 F L (As ++ Bs) H := ⟨⟨h.hw.hs.ungroup, h.hw.tf⟩, h.mv, h.nt, fun x hx a ha => by
  rcases List.mem_append.mp hx with q | q
  · exact h.ow (tG As) (.head _) a (List.mem_flatMap.mpr ⟨x, q, ha⟩)
  · exact h.ow x (.tail _ q) a ha⟩
theorem Rn.out (h : Rn K H0 (tG As).ft L Us H) : Up (tG As) Us H0 H := ⟨h.mv, h.nt, h.hw.hs.tabs0, fun x hx a ha => h.ow x hx a ha⟩
theorem Rn.out0 (h : Rn K H0 [] L Us H) : Up (tG []) Us H0 H := ⟨h.mv, h.nt, h.hw.hs.tabs0, fun x hx a ha => h.ow x hx a ha⟩
theorem Hw.grp {T0 : List (Addr × Str)} {As Bs : List Th} (h : Hw K L T0 (As ++ Bs) H) : Hw K L T0 (tG As :: Bs) H := ⟨h.hs.group, h.tf⟩
theorem Hw.ungrp {T0 : List (Addr × Str)} {As Bs : List Th} (h : Hw K L T0 (tG As :: Bs) H) : Hw K L T0 (As ++ Bs) H := ⟨h.hs.ungroup, h.tf⟩
/-- a thing taken apart, one of its own changed, put together again -/
theorem Up.refl (T : Th) (h : T.P H) : Up T [T] H H := ⟨.refl _ _, fun _ _ e _ => e, Hs.nil0.cons h (fun j y hj => by cases hj), fun x hx a ha => by rw [List.mem_singleton.mp hx] at ha; exact .inl ha⟩
end
end WB
namespace WB
open PySem PySem.Spec PyProof.Rows L2
/-! ### list(zip(xs, ys)) of two lists -/
theorem zl_no_len : typeLookup (.type "zip") "__len__" = pure none := by rw [typeLookup_type, builtinLookup_eq_fast]; kernel_rfl
theorem zl_no_hint : typeLookup (.type "zip") "__length_hint__" = pure none := by rw [typeLookup_type, builtinLookup_eq_fast]; kernel_rfl
/-- how far the zip is -/
def ZlAt (h : Heap) (z TI TO i1 i2 a b S : Addr) (i : Nat) : Prop :=
  IsPair h TI (.ref i1) (.ref i2) ∧ h.IsListIter i1 a i ∧ h.IsListIter i2 b i ∧
    ((IsZip h z TI TO .none ∧ ∃ x y, IsPair h TO x y) ∨ ∃ T f oT, IsZipHeld h z TI TO T f ∧ h.get? T = some oT ∧ T ≠ z ∧ T ≠ i1 ∧ T ≠ i2 ∧ T ≠ S) ∧ ∃ o, h.get? TO = some o
theorem ZlAt.but {h h' : Heap} {z TI TO i1 i2 a b S : Addr} {i : Nat} (x : ZlAt h z TI TO i1 i2 a b S i) (n1 : S ≠ z) (n2 : S ≠ TI) (n3 : S ≠ TO) (n4 : S ≠ i1) (n5 : S ≠ i2) (k : ∀ c o, c ≠ S → h.get? c = some o → h'.get? c = some o) : ZlAt h' z TI TO i1 i2 a b S i := by
  obtain ⟨x1, x2, x3, x4, oO, hO'⟩ := x
  refine ⟨k _ _ (Ne.symm n2) x1, x2.at fun o e => k _ o (Ne.symm n4) e, x3.at fun o e => k _ o (Ne.symm n5) e, ?_, oO, k _ _ (Ne.symm n3) hO'⟩
  rcases x4 with ⟨hz, x, y, hO⟩ | ⟨T, f, oT, hz, hT, r1, r2, r3, r4⟩
  · exact .inl ⟨k _ _ (Ne.symm n1) hz, x, y, k _ _ (Ne.symm n3) hO⟩
  · exact .inr ⟨T, f, oT, k _ _ (Ne.symm n1) hz, k _ _ r4 hT, r1, r2, r3, r4⟩
structure ZlOut (K : PySem.W.Frag) (H H' : Hp) (S : Addr) (xs ys : List V) (n : Nat) : Prop where
  same : ∀ c o, c ≠ S → H c = some o → H' c = some o
  lst : ∃ ts : List Addr, H' S = some (.lst (ts.map V.ref)) ∧ ts.length = n ∧ ∀ (j : Nat) (t : Addr), ts[j]? = some t → t ≠ S ∧ H t = none ∧ ∃ x y, xs[j]? = some x ∧ ys[j]? = some y ∧ H' t = some (.tup [x, y])
section
variable {X : Cx} {pins : List (Addr × Obj)} {σ : L2.St} {xs ys : List V} {z TI TO i1 i2 a b S : Addr}
theorem zl_loop (hc : X.calm = true) (D : ZipApart z TI TO i1 i2 a b) (S1 : S ≠ z) (S2 : S ≠ TI) (S3 : S ≠ TO) (S4 : S ≠ i1) (S5 : S ≠ i2) (hn : xs.length ≤ sizeLine) (hl : xs.length = ys.length) {H0 : Hp} {A : Around} (hA : A.handled = none) {R : Result → Shared → Prop}
    (hR : ∀ H' s', Inv X pins σ H' s' → ZlOut X.K H0 H' S xs ys xs.length → R (.ok (.ret .none)) s') :
    ∀ (k i : Nat) (H : Hp) (s : Shared), xs.length - i = k → i ≤ xs.length → Inv X pins σ H s → (∀ c ∈ [z, TI, TO, i1, i2], FpOk X pins H c) → SqL X.K H a xs → SqL X.K H b ys → ZlAt s.heap z TI TO i1 i2 a b S i → ZlOut X.K H0 H S xs ys i → a ≠ S → b ≠ S →
      codeAny (model X.prog X.w) A (.builtin "list.extend.loop" ⟨[.ref S, .ref z, .none], []⟩) R s := by
  intro k
  induction k with
  | zero =>
    intro i H s hk hi I hf qa qb st out aS bS
    have hin : i = xs.length := by omega
    subst hin
    obtain ⟨its, rv, pa, _⟩ := I.list qa
    obtain ⟨its2, rv2, pb, _⟩ := I.list qb
    have l1 := rv.length
    have he : its.toArray[xs.length]? = none ∨ its2.toArray[xs.length]? = none := .inl (by simp; omega)
    refine codeAny_builtin PySem.F.entry_extend_loop ?_
    rw [Around.under_plainId PySem.F.plain_extend_loop _]
    show wpAny _ A.in1 (pyNext (.ref z) >>= _) _ _ _
    obtain ⟨hI, h1, h2, hz, oO, hO'⟩ := st
    have fin : ∀ h', (∀ c o, c ≠ z → c ≠ TO → c ≠ i1 → c ≠ i2 → s.heap.get? c = some o → h'.get? c = some o) → R (.ok (.ret .none)) { s with heap := h' } := fun h' hk' =>
      hR H _ (I.turnedL (t' := s.toks) (ch := [z, TI, TO, i1, i2]) (fun c o hb q => hk' c o (fun q' => hb (by simp [q'])) (fun q' => hb (by simp [q'])) (fun q' => hb (by simp [q'])) (fun q' => hb (by simp [q'])) q) hf) out
    rcases hz with ⟨hz, x, y, hO⟩ | ⟨T, f, oT, hz, hT, r1, r2, r3, r4⟩
    · exact wpAny_bind (wpAny_pyNext_zip_end (A := A.in1) hA D hz hI hO h1 h2 pa.isList pb.isList he fun h' hk' => wpAny_pure (fin h' hk'))
    · exact wpAny_bind (wpAny_pyNext_zip_end_held (A := A.in1) hA D hz hT hI h1 h2 pa.isList pb.isList he fun h' hk' => wpAny_pure (fin h' fun c o c1 _ c3 c4 e => hk' c o c1 c3 c4 e))
  | succ k ih =>
    intro i H s hk hi I hf qa qb st out aS bS
    have hlt : i < xs.length := by omega
    obtain ⟨its, rv, pa, _⟩ := I.list qa
    obtain ⟨its2, rv2, pb, _⟩ := I.list qb
    obtain ⟨x, hx⟩ := getElem?_ex hlt
    obtain ⟨y, hy⟩ := getElem?_ex (show i < ys.length by omega)
    obtain ⟨u, hu, ru⟩ := rv.get hx
    obtain ⟨v, hv, rw_⟩ := rv2.get hy
    have ex : its.toArray[i]? = some u := by simpa using hu
    have ey : its2.toArray[i]? = some v := by simpa using hv
    refine codeAny_builtin PySem.F.entry_extend_loop ?_
    rw [Around.under_plainId PySem.F.plain_extend_loop _]
    show wpAny _ A.in1 (pyNext (.ref z) >>= _) _ _ _
    obtain ⟨hI, h1, h2, hz, oO, hO'⟩ := st
    obtain ⟨sm, ts, hSl, htl, hts⟩ := out
    have lt : ∀ {c o}, s.heap.get? c = some o → s.heap.objs.size ≠ c := fun e => Nat.ne_of_gt (Heap.lt_size e)
    have n1 : s.heap.objs.size ≠ i1 := let ⟨_, e, _⟩ := h1; lt e
    have n2 : s.heap.objs.size ≠ i2 := let ⟨_, e, _⟩ := h2; lt e
    have nS : s.heap.objs.size ≠ S := Nat.ne_of_gt (I.hok.lt hSl)
    have na : s.heap.objs.size ≠ a := Nat.ne_of_gt pa.lt
    have nb : s.heap.objs.size ≠ b := Nat.ne_of_gt pb.lt
    have nTI : s.heap.objs.size ≠ TI := lt hI
    have nz : s.heap.objs.size ≠ z := by rcases hz with ⟨hz, _⟩ | ⟨_, _, _, hz, _⟩ <;> exact lt hz
    have hfr : H s.heap.objs.size = none := I.hok.fresh (Nat.le_refl _)
    -- what follows a draw
    have after : ∀ h', IsPair h' TI (.ref i1) (.ref i2) → h'.IsListIter i1 a (i + 1) → h'.IsListIter i2 b (i + 1) → IsPair h' s.heap.objs.size u v →
        (∃ T f oT, IsZipHeld h' z TI TO T f ∧ h'.get? T = some oT ∧ T ≠ z ∧ T ≠ i1 ∧ T ≠ i2 ∧ T ≠ S) → (∃ o, h'.get? TO = some o) →
        (∀ c o, c ≠ z → c ≠ TO → c ≠ i1 → c ≠ i2 → s.heap.get? c = some o → h'.get? c = some o) →
        wpAny (model X.prog X.w) A.in1 (updateSeq S (·.push (Value.ref s.heap.objs.size)) >>= fun _ => again (.builtin "list.extend.loop" ⟨[.ref S, .ref z, .none], []⟩))
          (fun fin s' => match fin with | .done f => R (.ok f) s' | .again c' => c'.quiet = true ∧ codeAny (model X.prog X.w) A c' R s') (fun e s' => R (.error e) s') { s with heap := h' } := by
      intro h' a1 a3 a4 a5 a6 a7 hk'
      have J : Inv X pins σ (upd H s.heap.objs.size (.tup [x, y])) { s with heap := h', toks := s.toks } :=
        I.turnedNew (ch := [z, TI, TO, i1, i2]) (fun c o hb q => hk' c o (fun q' => hb (by simp [q'])) (fun q' => hb (by simp [q'])) (fun q' => hb (by simp [q'])) (fun q' => hb (by simp [q'])) q) hf (Nat.le_refl _) ⟨by show 2 ≤ sizeLine; decide, [u, v], .cons ru (.cons rw_ .nil), _, a5, rfl, _, rfl⟩
      have hS' : upd H s.heap.objs.size (.tup [x, y]) S = some (.lst (ts.map V.ref)) := by rw [upd_ne (Ne.symm nS)]; exact hSl
      obtain ⟨hz0, its3, nn, r3, l3, e3⟩ := J.lstM hS'
      have e3 : h'.get? S = some { cls := .type "list", data := .seq its3.toArray nn } := e3
      have hlen : its3.length = i := by rw [← l3, List.length_map, htl]
      refine wpAny_bind ?_
      refine wpAny_updateSeq (s := { s with heap := h' }) e3 rfl (wpAny_pure ⟨plainId_quiet PySem.F.plain_extend_loop _, ?_⟩) (by rw [List.size_toArray]; omega) (by rw [Array.size_push, List.size_toArray]; omega)
      have J2 := J.lset (its' := its3 ++ [Value.ref s.heap.objs.size]) (ys := ts.map V.ref ++ [V.ref s.heap.objs.size]) (t' := s.toks) hS' e3 (f := (·.push (Value.ref s.heap.objs.size))) (by simp) (r3.append (.cons rfl .nil)) (by rw [List.length_append, List.length_map]; show ts.length + 1 ≤ _; omega)
      have up : ∀ c o, c ≠ S → h'.get? c = some o → (h'.update S (Obj.mapSeq (·.push (Value.ref s.heap.objs.size)))).get? c = some o := fun c o hb e => (Heap.get?_update_other _ _ (Ne.symm hb)).trans e
      have keepH : ∀ c o, c ≠ S → H c = some o → upd (upd H s.heap.objs.size (.tup [x, y])) S (.lst (ts.map V.ref ++ [V.ref s.heap.objs.size])) c = some o := fun c o hb e => by rw [upd_ne hb, upd_ne (ne_of_none e hfr)]; exact e
      have sqk : ∀ {c l}, c ≠ S → SqL X.K H c l → SqL X.K (upd (upd H s.heap.objs.size (.tup [x, y])) S (.lst (ts.map V.ref ++ [V.ref s.heap.objs.size]))) c l := fun {c l} hb e => by
        rcases e with (e | ⟨o, e⟩) | e
        · exact .inl (.inl (keepH _ _ hb e))
        · exact .inl (.inr ⟨o, keepH _ _ hb e⟩)
        · exact .inr e
      refine ih (i + 1) _ _ (by omega) hlt J2 (fun c hcm => ?_) (sqk aS qa) (sqk bS qb) (ZlAt.but ⟨a1, a3, a4, .inr a6, a7⟩ S1 S2 S3 S4 S5 up) ⟨fun c o hb e => keepH c o hb (sm c o hb e), ts ++ [s.heap.objs.size], ?_, ?_, ?_⟩ aS bS
      · obtain ⟨f1, f2⟩ := hf c hcm
        refine ⟨?_, f2⟩
        have c1 : c ≠ S := by
          simp only [List.mem_cons, List.not_mem_nil, or_false] at hcm
          rcases hcm with rfl | rfl | rfl | rfl | rfl
          · exact Ne.symm S1
          · exact Ne.symm S2
          · exact Ne.symm S3
          · exact Ne.symm S4
          · exact Ne.symm S5
        have c2 : c ≠ s.heap.objs.size := by
          intro e
          have : ∃ o, s.heap.get? c = some o := by
            simp only [List.mem_cons, List.not_mem_nil, or_false] at hcm
            rcases hcm with rfl | rfl | rfl | rfl | rfl
            · rcases hz with ⟨hz, _⟩ | ⟨_, _, _, hz, _⟩ <;> exact ⟨_, hz⟩
            · exact ⟨_, hI⟩
            · exact ⟨_, hO'⟩
            · exact let ⟨o, e, _⟩ := h1; ⟨o, e⟩
            · exact let ⟨o, e, _⟩ := h2; ⟨o, e⟩
          obtain ⟨o, e2⟩ := this
          exact lt e2 e.symm
        rw [upd_ne c1, upd_ne c2]
        exact f1
      · rw [upd_same, List.map_append]
        rfl
      · rw [List.length_append, htl]
        rfl
      · intro j t hj
        by_cases hjl : j < ts.length
        · rw [List.getElem?_append_left hjl] at hj
          obtain ⟨t1, t2, x', y', e1, e2, e3⟩ := hts j t hj
          exact ⟨t1, t2, x', y', e1, e2, keepH _ _ t1 e3⟩
        · have hj' := List.getElem?_eq_some_iff.mp hj
          have : j = i := by
            have := hj'.1
            rw [List.length_append, htl] at this
            have : j < i + 1 := this
            omega
          subst this
          rw [List.getElem?_append_right (by omega), show j - ts.length = 0 by omega] at hj
          have : t = s.heap.objs.size := (Option.some.inj hj).symm
          subst this
          refine ⟨nS, ?_, x, y, hx, hy, ?_⟩
          · cases e : H0 s.heap.objs.size with
            | none => rfl
            | some o => exact absurd (sm _ _ nS e) (by rw [hfr]; exact fun q => nomatch q)
          · rw [upd_ne nS, upd_same]
    rcases hz with ⟨hz, x0, y0, hO⟩ | ⟨T, f, oT, hz, hT, r1, r2, r3, r4⟩
    · refine wpAny_bind (wpAny_pyNext_zip_item D hz hI hO h1 h2 pa.isList pb.isList ex ey fun h' b1 b2 b3 b4 b5 b6 hk' => ?_)
      exact after h' (hk' _ _ D.TIz D.TITO D.TIi1 D.TIi2 hI) b3 b4 b5 ⟨s.heap.objs.size, false, _, b1, b5, nz, n1, n2, nS⟩ ⟨_, b2⟩ hk'
    · refine wpAny_bind (wpAny_pyNext_zip_item_held D hz hT hI h1 h2 pa.isList pb.isList ex ey fun h' b1 b3 b4 b5 b6 hk' => ?_)
      exact after h' (hk' _ _ D.TIz D.TIi1 D.TIi2 hI) b3 b4 b5 ⟨T, true, oT, b1, hk' _ _ r1 r2 r3 hT, r1, r2, r3, r4⟩ ⟨_, hk' _ _ D.TOz D.TOi1 D.TOi2 hO'⟩ (fun c o c1 _ c3 c4 e => hk' c o c1 c3 c4 e)
end
/-- list(zip(a, b)): a list of new pairs -/
def tListZip (K : PySem.W.Frag) (ta : TA) : TE := fun σ H Q => ta σ H fun vs H1 => ∃ a b xs ys, vs = [.ref a, .ref b] ∧ SqL K H1 a xs ∧ SqL K H1 b ys ∧ xs.length = ys.length ∧ xs.length ≤ 100000 ∧
  ∀ (H' : Hp) (l : Addr) (ts : List Addr), Same H1 H' → H1 l = none → H' l = some (.lst (ts.map V.ref)) → ts.length = xs.length → (∀ (j : Nat) (t : Addr), ts[j]? = some t → t ≠ l ∧ H1 t = none ∧ ∃ x y, xs[j]? = some x ∧ ys[j]? = some y ∧ H' t = some (.tup [x, y])) → Q (.ref l) H'
theorem pe_listzip {X : Cx} (K : PySem.W.Frag) (hK : X.K = K) {e e2 : Expr} {ta : TA} {p p2 pos pos2 : Pos} (hg : Gl X "list") (hm : X.mg "list" = none) (hg2 : Gl X "zip") (hm2 : X.mg "zip" = none) (ha : PA X [e, e2] ta) (hc : X.calm = true := by rfl)
    (hs : starEach [e, e2] X.env = (false, eval e X.env) :: starEach [e2] X.env := by rfl) (hpl : (backTo pos2 (starEach [e2] X.env)).any (·.1) = false := by rfl)
    (hs2 : starEach [.Call (.Name "zip" p2) [e, e2] [] pos2] X.env = (false, eval (.Call (.Name "zip" p2) [e, e2] [] pos2) X.env) :: starEach [] X.env := by rfl) (hpl2 : (backTo pos (starEach [] X.env)).any (·.1) = false := by rfl) :
    PE X (.Call (.Name "list" p) [.Call (.Name "zip" p2) [e, e2] [] pos2] [] pos) (tListZip K ta) := by
  subst hK
  refine ⟨fun pins s σ H Q I h => ?_⟩
  refine wpAny_Call_Name_kw (ld_blt I hg hm PyProof.Rows.boot_list (PyProof.Rows.callWith_type1 ?_ hs2 hpl2))
  rw [hs2]
  show wpAny _ _ (spliced ((false, eval (.Call (.Name "zip" p2) [e, e2] [] pos2) X.env) :: backTo pos (starEach [] X.env))) _ _ s
  refine Calls.spliced_cons ?_
  refine wpAny_Call_Name_kw (ld_blt I hg2 hm2 PyProof.Rows.boot_zip (PyProof.Rows.callWith_type1 (thn (ha.run pos2 pins s σ H _ I h) fun us s1 y => ?_) hs hpl))
  obtain ⟨vs, H1, I1, r1, a, b, xs, ys, ex, hqx, hqy, hl, hz, q⟩ := y
  subst ex
  cases r1 with
  | cons r rr =>
  cases rr with
  | cons r' rr =>
  cases rr
  cases r
  cases r'
  obtain ⟨its, rv, p1, _⟩ := I1.list hqx
  obtain ⟨its2, rv2, p2', _⟩ := I1.list hqy
  have la : a < s1.heap.objs.size := p1.lt
  have lb : b < s1.heap.objs.size := p2'.lt
  refine call_zip_2 p1.isList p2'.isList fun h' hzz hTI hTO h1 h2 hsz hk => ?_
  have I2 : Inv X pins σ H1 { s1 with heap := h' } := I1.kept (t' := s1.toks) hk
  refine Calls.spliced_nil ?_
  have D := PySem.W.ktu_apart s1.heap.objs.size a b la lb
  have hfr : ∀ c, s1.heap.objs.size ≤ c → H1 c = none := fun c hc => I1.hok.fresh hc
  generalize hN : s1.heap.objs.size = N at *
  have hf : ∀ c ∈ [N + 4, N + 2, N + 3, N, N + 1], FpOk X pins H1 c := fun c hcm => by
    have hle : s1.heap.objs.size ≤ c := by
      rw [hN]
      simp only [List.mem_cons, List.not_mem_nil, or_false] at hcm
      omega
    exact I1.fpOk hle (I1.hok.fresh hle)
  -- the new list
  refine callType_codes (s := { s1 with heap := h' }) (Q₁ := fun obj s₂ => obj = .ref h'.objs.size ∧ s₂ = { s1 with heap := h'.push { cls := .type "list", data := .seq #[] } }) PySem.F.called_list (PySem.F.typeCall_list_1 _) PySem.F.entry_list_init
    (code_list_new _ ⟨rfl, rfl⟩) fun obj s₂ hobj => ?_
  obtain ⟨rfl, rfl⟩ := hobj
  have hS : (h'.push { cls := .type "list", data := .seq #[] }).get? h'.objs.size = some { cls := .type "list", data := .seq #[] } := Heap.get?_push_size _ rfl
  have I3 : Inv X pins σ (upd H1 h'.objs.size (.lst [])) { s1 with heap := h'.push { cls := .type "list", data := .seq #[] } } := I2.lnew (its := []) (t' := s1.toks) .nil (Nat.zero_le _)
  have hH1 : H1 h'.objs.size = none := I2.hok.fresh (Nat.le_refl _)
  generalize hM : h'.objs.size = M at *
  have hMN : M = N + 5 := hsz
  have hz3 : IsZip (h'.push { cls := .type "list", data := .seq #[] }) (N + 4) (N + 2) (N + 3) .none := Heap.get?_push_of_some _ hzz
  refine ⟨⟨_, hS, rfl⟩, PySem.F.args_list_init_2 _ _, ?_⟩
  show wpAny _ _ (do let old ← Builtin.List.listItems (.ref M); Builtin.List.listUpdate (.ref M) (fun _ => #[]); letGo old.toList.reverse; Builtin.List.listExtendWith (.ref M) (.ref (N + 4)) .none) _ _ _
  refine wpAny_bind ?_
  unfold Builtin.List.listItems
  refine wpAny_bind (wpAny_seqItems hS rfl (wpAny_pure ?_))
  show wpAny _ _ (updateSeq M (fun _ => #[]) >>= fun _ => letGo (#[] : Array Value).toList.reverse >>= fun _ => Builtin.List.listExtendWith (.ref M) (.ref (N + 4)) .none) _ _ _
  refine wpAny_bind (wpAny_updateSeq hS rfl ?_)
  have hS₂ := Heap.get?_update_self (Obj.mapSeq (fun _ => (#[] : Array Value))) hS rfl
  have I4 := I3.lset (its := []) (its' := []) (ys := []) (t' := s1.toks) upd_same hS (f := fun _ => #[]) rfl .nil (Nat.zero_le _)
  refine wpAny_bind (wpAny_letGo ?_)
  have oth : ∀ c o, c ≠ M → (h'.push { cls := .type "list", data := .seq #[] }).get? c = some o → ((h'.push { cls := .type "list", data := .seq #[] }).update M (Obj.mapSeq (fun _ => (#[] : Array Value)))).get? c = some o := fun c o hb e => (Heap.get?_update_other _ _ (Ne.symm hb)).trans e
  have nez : N + 4 ≠ M := by omega
  unfold Builtin.List.listExtendWith
  have hz4 := oth _ _ nez hz3
  refine wpAny_bind (wpAny_typeOf (T := "zip") ⟨_, hz4, rfl⟩ ?_)
  have h1' : Builtin.List.listSameRef (.ref M) (.ref (N + 4)) = false := by simp [Builtin.List.listSameRef, Ne.symm nez]
  have h2' : (Value.type "zip" == Value.type "list") = false := by decide
  have h3' : (Value.type "zip" == Value.type "tuple") = false := by decide
  simp only [h1', h2', h3', Bool.or_false, Bool.false_eq_true, if_false]
  refine wpAny_bind (wpAny_pyIter_zip hz4 ?_)
  refine wpAny_bind (wpAny_holding ?_)
  unfold Builtin.List.listLengthHint
  refine wpAny_bind (wpAny_specialOf (T := "zip") ⟨_, hz4, rfl⟩ zl_no_len ?_)
  refine wpAny_bind (wpAny_specialOf (T := "zip") ⟨_, hz4, rfl⟩ zl_no_hint ?_)
  refine wpAny_pure ?_
  show wpAny _ _ (rule "list.extend.makes-room" >>= fun _ => Builtin.List.listTouch (.ref M) >>= fun _ => again (.builtin "list.extend.loop" ⟨[.ref M, .ref (N + 4), .none], []⟩)) _ _ _
  refine wpAny_bind (wpAny_rule ?_)
  refine wpAny_bind ?_
  show wpAny _ _ (updateSeq M (·.push .none) >>= fun _ => updateSeq M (·.pop)) _ _ _
  refine wpAny_bind (wpAny_updateSeq hS₂ rfl ?_)
  have hS₃ := Heap.get?_update_self (Obj.mapSeq (·.push Value.none)) hS₂ rfl
  have I5 := I4.lset (its := []) (its' := [Value.none]) (ys := [V.non]) (t' := s1.toks) upd_same hS₂ (f := (·.push .none)) rfl (.cons rfl .nil) (by show 1 ≤ sizeLine; decide)
  refine wpAny_updateSeq hS₃ rfl ?_
  have hS₄ := Heap.get?_update_self (Obj.mapSeq (·.pop)) hS₃ rfl
  have I6 := I5.lset (its := [Value.none]) (its' := []) (ys := []) (t' := s1.toks) upd_same hS₃ (f := (·.pop)) rfl .nil (Nat.zero_le _)
  have eH : upd (upd (upd (upd H1 M (.lst [])) M (.lst [])) M (.lst [.non])) M (.lst []) = upd H1 M (.lst []) := by
    funext c
    by_cases hcM : c = M
    · rw [hcM, upd_same, upd_same]
    · rw [upd_ne hcM, upd_ne hcM, upd_ne hcM, upd_ne hcM]
  rw [eH] at I6
  have oth2 : ∀ c o, c ≠ M → h'.get? c = some o → ((((h'.push { cls := .type "list", data := .seq #[] }).update M (Obj.mapSeq (fun _ => (#[] : Array Value)))).update M (Obj.mapSeq (·.push Value.none))).update M (Obj.mapSeq (·.pop))).get? c = some o := fun c o hb e =>
    (Heap.get?_update_other _ _ (Ne.symm hb)).trans ((Heap.get?_update_other _ _ (Ne.symm hb)).trans (oth c o hb (Heap.get?_push_of_some _ e)))
  have sq1 : ∀ {c l}, SqL X.K H1 c l → SqL X.K (upd H1 M (.lst [])) c l := fun e => (same_upd hH1).seq e
  have aM : a ≠ M := by rw [hMN]; exact Nat.ne_of_lt (Nat.lt_of_lt_of_le la (Nat.le_add_right _ _))
  have bM : b ≠ M := by rw [hMN]; exact Nat.ne_of_lt (Nat.lt_of_lt_of_le lb (Nat.le_add_right _ _))
  have ne4 : ∀ j : Nat, j < 5 → M ≠ N + j := fun j hj z => by
    have z : M = N + j := z
    omega
  refine wpAny_pure ⟨plainId_quiet PySem.F.plain_extend_loop _, ?_⟩
  refine zl_loop hc D (ne4 4 (by decide)) (ne4 2 (by decide)) (ne4 3 (by decide)) (ne4 0 (by decide)) (ne4 1 (by decide)) (Nat.le_trans hz (by decide)) hl (H0 := H1) (A := X.A.in1) (I1.ok.hd hc) (fun H' s' J out => ?_) xs.length 0 _ _ (Nat.sub_zero _) (Nat.zero_le _) I6 (fun c hcm => ?_) (sq1 hqx) (sq1 hqy)
    ⟨oth2 _ _ (Ne.symm (ne4 2 (by decide))) hTI, h1.at fun o e => oth2 _ o (Ne.symm (ne4 0 (by decide))) e, h2.at fun o e => oth2 _ o (Ne.symm (ne4 1 (by decide))) e, .inl ⟨oth2 _ _ (Ne.symm (ne4 4 (by decide))) hzz, _, _, oth2 _ _ (Ne.symm (ne4 3 (by decide))) hTO⟩, _, oth2 _ _ (Ne.symm (ne4 3 (by decide))) hTO⟩
    ⟨fun c o hcM e => by rw [upd_ne hcM]; exact e, [], upd_same, rfl, fun j t hj => by cases hj⟩ aM bM
  · obtain ⟨sm, ts, e1, e2, e3⟩ := out
    exact ⟨rfl, .ref M, H', J, rfl, q H' M ts (fun c o e => sm c o (ne_of_none e hH1) e) hH1 e1 e2 e3⟩
  · obtain ⟨f1, f2⟩ := hf c hcm
    refine ⟨?_, f2⟩
    have : c ≠ M := by
      intro z
      simp only [List.mem_cons, List.not_mem_nil, or_false] at hcm
      rcases hcm with h | h | h | h | h
      · exact ne4 4 (by decide) (z.symm.trans h)
      · exact ne4 2 (by decide) (z.symm.trans h)
      · exact ne4 3 (by decide) (z.symm.trans h)
      · exact ne4 0 (by decide) (z.symm.trans h)
      · exact ne4 1 (by decide) (z.symm.trans h)
    rw [upd_ne this]
    exact f1
end WB
namespace WB
open PySem PySem.Spec PyProof.Rows L2
/-! ### makers with n arguments by place, keywords ks, defaults of both kinds -/
def CalNP (P : Program) (w : World) (K : PySem.W.Frag) (mg : Str → Option Value) (base : Heap) (k : Nat) (nm : Str) (C : Addr) (ps : List Str) (n : Nat) (ks : List Str) (gV : List V → List V → List V) (sp : Sp) : Prop :=
  ∃ (f : Addr) (fd : FuncData) (g : List Value → List Value → List Value), Mk K C f ∧ FnOk P w K mg base (L2.CX P w) k f fd ps sp ∧ mg nm = some (.ref C) ∧ KBn K fd ps (n + 1) ks g gV
theorem CalNP.mono {P : Program} {w : World} {K : PySem.W.Frag} {mg : Str → Option Value} {base : Heap} {j k n : Nat} {nm : Str} {C : Addr} {ps ks : List Str} {gV : List V → List V → List V} {sp : Sp} (c : CalNP P w K mg base j nm C ps n ks gV sp) (h : j ≤ k) : CalNP P w K mg base k nm C ps n ks gV sp := by
  obtain ⟨f, fd, g, a, b, d, e⟩ := c
  exact ⟨f, fd, g, a, b.mono h, d, e⟩
section
variable {X : Cx} {k n : Nat} {C : Addr} {ps ks : List Str} {sp : Sp} {E : XK} {nm : Str} {p pos : Pos} {e : Expr} {es : List Expr} {kws : List Keyword} {t tk : TA} {gV : List V → List V → List V}
theorem pe_makeP (c : CalNP X.prog X.w X.K X.mg X.base k nm C ps n ks gV sp) (hr : Room (k + 1) X.A) (hx : Passes (L2.CX X.prog X.w) X E) (hg : Gl X nm) (ha : PA X (e :: es) t) (hkw : PK X kws tk)
    (hall : (backToKw pos (keywordEach kws X.env)).all (·.1.isSome) = true := by rfl) (hks : (backToKw pos (keywordEach kws X.env)).filterMap (·.1) = ks := by rfl) (hdb : (nm == ("__debug__" : Str)) = false := by decide)
    (he : starEach (e :: es) X.env = (false, eval e X.env) :: starEach es X.env := by rfl) (hpl : ((backTo pos (starEach (e :: es) X.env)).any (·.1) || (backToKw pos (keywordEach kws X.env)).any (·.1.isNone)) = false := by rfl) :
    PE X (.Call (.Name nm p) (e :: es) kws pos) (tMakeK C n ks.length sp gV E t tk) := by
  obtain ⟨f, fd, g, a, b, d, hb⟩ := c
  exact pe_makeK a b hr hg d hb hx ha hkw hall hks hdb he hpl
theorem pe_makePF (c : CalNP X.prog X.w X.K X.mg X.base k nm C ps n ks gV sp) (hr : Room (k + 1) X.A) (hg : Gl X nm) (ha : PA X (e :: es) t) (hkw : PK X kws tk)
    (hall : (backToKw pos (keywordEach kws X.env)).all (·.1.isSome) = true := by rfl) (hks : (backToKw pos (keywordEach kws X.env)).filterMap (·.1) = ks := by rfl) (hdb : (nm == ("__debug__" : Str)) = false := by decide)
    (he : starEach (e :: es) X.env = (false, eval e X.env) :: starEach es X.env := by rfl) (hpl : ((backTo pos (starEach (e :: es) X.env)).any (·.1) || (backToKw pos (keywordEach kws X.env)).any (·.1.isNone)) = false := by rfl) :
    PE X (.Call (.Name nm p) (e :: es) kws pos) (tMakeK C n ks.length sp gV E0 t tk) := pe_makeP c hr passL hg ha hkw hall hks hdb he hpl
end
section
variable {K : PySem.W.Frag} {x qual : Str} {params : Arguments} {body : List Stmt} {scope : Scope} {dvs : List V} {kws : List (Str × V)} {f : Addr} {fd : FuncData} {ps : List Str}
theorem kbn_pickD (F : FunD K x qual params body scope dvs kws f fd) (n j : Nat) (ks : List Str) (ms : List (Str × V)) (is : List Nat) (hd : dvs ≠ []) (hk : kws ≠ []) (hms : ∀ q ∈ ms, q ∈ kws)
    (h : ∀ (T D : Addr) (doc pm : Value) (an : Option Addr) (cdv ct : Value) (us its mv ws : List Value), us.length = n → its.length = dvs.length → mv.length = ms.length → ws.length = ks.length →
      ∃ k, bindArgs (PySem.W.fnOf x qual params body scope (.ref T) (.ref D) doc pm an cdv ct) ⟨us, ks.zip ws⟩ = seqItems? (.ref T) >>= k ∧ KwChain D ((ms.map (·.1)).zip mv) (k (some its.toArray)) (ps.zip (us ++ its.drop j ++ pickL (ws ++ mv) is))) :
    ∃ g, KBn K fd ps n ks g (fun vs zs => vs ++ dvs.drop j ++ pickL (zs ++ ms.map (·.2)) is) := by
  obtain ⟨its, mv, hb⟩ := F.kbinds (ps := ps) n ks ms (fun {α} us its mv ws => us ++ its.drop j ++ pickL (ws ++ mv) is) hd hk hms (fun r1 r2 r3 r4 => (r1.append (r2.drop j)).append (vals_pick (r4.append r3) is)) h
  exact ⟨_, hb⟩
end
end WB
namespace WB
open PySem PySem.Spec PyProof.Rows L2
/-! ### sorted of a list of numbers -/
def rSortL (K : PySem.W.Frag) : List V → Hp → VK → Prop := fun vs H Q => ∃ (a : Addr) (ns : List Int), vs = [.ref a] ∧ SqL K H a (ns.map V.int) ∧ ∀ (p : Addr) (ms : List Int), H p = none → ms.Perm ns → ms.Pairwise (· ≤ ·) → Q (.ref p) (upd H p (.lst (ms.map V.int)))
theorem cr_sortedL {X : Cx} : CallR X (.builtin "sorted") (rSortL X.K) := by
  intro pins s σ H vs us Q I r h
  obtain ⟨a, ns, rfl, hs, q⟩ := h
  obtain ⟨its, rv, hl, hz⟩ := I.list hs
  rw [Vals.ref1 r]
  have hI : IntsAre its ns := Vals.ints rv
  have hlen := IntsAre.length hI
  rw [List.length_map] at hz
  refine sorted_intsAny (vs := its) hl.isList hI (by omega) fun out ms hI' hp hw => ?_
  obtain ⟨e, he⟩ := sortedAll_at s.heap its out
  have hn : H (s.heap.objs.size + 1) = none := I.hok.fresh (Nat.le_succ _)
  have hml : ms.length = ns.length := hp.length_eq
  refine ⟨.ref (s.heap.objs.size + 1), _, I.laid (h' := sortedAll s.heap its out) (t' := s.toks) (o := .lst (ms.map V.int)) (fun b u hb => sortedAll_old hb) (Nat.le_succ _) ⟨by rw [List.length_map]; omega, out.toList, e, vals_ints hI', he⟩, rfl, q _ ms hn hp hw⟩
theorem cr_sortedLK {X : Cx} (K : PySem.W.Frag) (h : X.K = K) : CallR X (.builtin "sorted") (rSortL K) := by subst h; exact cr_sortedL
end WB
namespace WB
open PySem PySem.Spec PyProof.Rows L2
/-! ### groups put together; a test by its outcome -/
theorem Hw.gapp {α : Type} {K : PySem.W.Frag} {L : List (Addr × List L2.V)} {T0 : List (Addr × Str)} {Ts : List Th} {f : α → Th} {Y Z : List α} {H : Hp} (h : Hw K L T0 (Z.map f ++ (tG (Y.map f) :: Ts)) H) : Hw K L T0 (tG ((Y ++ Z).map f) :: Ts) H := by
  have h1 : Hw K L T0 (tG (Y.map f) :: (Z.map f ++ Ts)) H := ⟨h.hs.perm List.perm_middle, h.tf⟩
  have h2 := h1.ungrp
  rw [← List.append_assoc, ← List.map_append] at h2
  exact h2.grp
theorem Hw.gappI {α : Type} {K : PySem.W.Frag} {L : List (Addr × List L2.V)} {T0 : List (Addr × Str)} {Ts : List Th} {f : α → Th} {Y Z : List α} {H : Hp} (i : Nat) (h : Hw K L T0 (Z.map f ++ Ts) H) (hi : Ts[i]? = some (tG (Y.map f))) : Hw K L T0 (tG ((Y ++ Z).map f) :: Ts.eraseIdx i) H :=
  Hw.gapp ⟨h.hs.perm (List.Perm.append_left _ (perm_at hi).symm), h.tf⟩
theorem Hw.mid {K : PySem.W.Frag} {L : List (Addr × List L2.V)} {T0 : List (Addr × Str)} {As Bs : List Th} {T : Th} {H : Hp} (h : Hw K L T0 (T :: (As ++ Bs)) H) : Hw K L T0 (As ++ T :: Bs) H := ⟨h.hs.perm List.perm_middle.symm, h.tf⟩
theorem Hw.knows {K : PySem.W.Frag} {L L' : List (Addr × List L2.V)} {T0 : List (Addr × Str)} {Ts : List Th} {H : Hp} (h : Hw K L T0 Ts H) (t : TF K L' H) : Hw K (L' ++ L) T0 Ts H := ⟨h.hs, fun p hp => (List.mem_append.mp hp).elim (t p) (h.tf p)⟩
theorem ifP {c : TT} {t e : TS} {D : Ends} {σ : L2.St} {H : Hp} (b : Bool) (hc : ∀ Q : Bool → Hp → Prop, Q b H → c σ H Q) (ht : b = true → t D σ H) (he : b = false → e D σ H) : tIfS c t e D σ H := by
  refine hc _ ?_
  cases b with
  | true => exact ht rfl
  | false => exact he rfl
theorem dp_ii {K : PySem.W.Frag} {H : Hp} {z y : Int} (e : z = y) : Dp K H (.int z) (.int y) := by rw [e]; exact .int y
theorem dn_i (z : Int) (n : Nat) : Dn (n + 1) (.int z) := .inr (.inl ⟨z, rfl⟩)
theorem shaped_i (z : Int) : SeqAt.shaped (.int z) = true := rfl
end WB
namespace WB
open PySem PySem.Spec PyProof.Rows L2
/-! ### laws in which a second def makes lambdas too: the tables of both are empty at the start -/
/-- walk_ofOwn with the table of the def named m known beside the law's own -/
theorem walk_own2 {l : PySem.W.OpenLaw} {n k : Nat} {q : Program} {loose : List Str} {XP : (Str → Option Value) → Heap → Prop} {YP : World → Heap → Prop} {d : DefRec} {K : Params → PySem.W.Frag} {CX : World → CXT} {x : Str} (m : Str)
    (hn : l.most = some n) (hn2 : n ≤ sizeLine) (hdf : d.params.defaults = []) (hr : Room k callerA) (hm1 : ((recsOf q).any fun e => e.name == d.name) = true) (hm2 : ((recsOf q).any fun e => e.name == m) = true) (hY : ∀ (w : World) (h : Heap), YP w h → (K w.params).In h)
    (F : ∀ (w : World) (mg : Str → Option Value) (fa : Addr) (h : Heap), YP w h → (K w.params).In h → h.Ns mainGlobals mg → mg d.name = some (.ref fa) → LamX.OwnTab (K w.params) fa h → (∀ fb : Addr, mg m = some (.ref fb) → LamX.OwnTab (K w.params) fb h) → LamX.LawAtS l w (K w.params) (CX w) k n x mg fa h)
    (hCX : ∀ (w : World) (H : Hp) (s : Shared) (e : Value) (s' : Shared), CX w [] H s (fun _ _ _ => False) e s' → False) :
    PySem.W.WalkO q loose XP YP l.row.toRowW d [] (fun f vs => PySem.call f vs) := by
  refine Att.attach_callB hn hdf fun w s₀ s₁ mg mb fa o pm cd doc a vs ns G Y ho hd hcd hmg hobj hints hlen hbits hg => ?_
  have KX := hY w _ Y
  have tab : ∀ y : Str, ((recsOf q).any fun e => e.name == y) = true → ∀ fb : Addr, mg y = some (.ref fb) → LamX.OwnTab (K w.params) fb s₁.heap := by
    intro y hy fb hfb c P o1 fd1 e dd vs1 sl k1 k2 k3 k4 k5
    obtain ⟨r, hr1, hr2⟩ := List.any_eq_true.mp hy
    obtain ⟨a', o', fd', c', P', h1, h2, h3, h4, _, ⟨oc, vc, e1, _, e3, e4⟩, hP⟩ := G.T.tab r hr1
    obtain rfl : fb = a' := by
      have := (beq_iff_eq.mp hr2) ▸ h1
      exact Value.ref.inj (Option.some.inj (hfb.symm.trans this))
    obtain rfl : o1 = o' := Option.some.inj ((KX _ _ k1).symm.trans h2)
    obtain rfl : fd1 = fd' := by
      have := k2.symm.trans h3
      injection this
    obtain rfl : c = c' := Value.ref.inj (k3.symm.trans h4)
    obtain rfl := Option.some.inj ((KX _ _ k4).symm.trans e1)
    cases e3
    obtain rfl : P = P' := Value.ref.inj (Option.some.inj (k5.symm.trans e4))
    exact hP
  obtain ⟨fd, cs, sp, hT, nT, C, hb, hsp, hF⟩ := F w mg fa _ Y KX G.T.g hmg (tab _ hm1 _ hmg) (fun fb => tab _ hm2 fb)
  exact LamX.law_callTs KX G.T.g G.T.b G.T.builtins G.T.nolimit hg hT nT C G.T.bmain hobj hints (Nat.le_trans hlen hn2) hr hF hb (fun H hH hS => hsp H a ns hlen hbits hH hS) fun H e s' => hCX w H s₁ e s'

/-- the promise of a law with the tables of two defs -/
def spLaw2 (K : PySem.W.Frag) (tP tQ : Addr) : Sp := fun vs H Q _ => ∃ (a : Addr) (ns : List Int), vs = [.ref a] ∧ SqL K H a (ns.map V.int) ∧ H tP = some (.tbl #[]) ∧ H tQ = some (.tbl #[]) ∧ ∀ H', Q (.bl true) H'
end WB
namespace WB
open PySem PySem.Spec PyProof.Rows L2
/-! ### the names of a def at its start -/
theorem start1 (x : Str) (N : List Str) (v : L2.V) : L2.start (x :: N) [v] = some v :: N.map fun _ => none := by
  show some v :: List.replicate (N.length + 1 - 1) none = _
  rw [Nat.add_sub_cancel]
  congr 1
  induction N with
  | nil => rfl
  | cons y N ih => exact congrArg (none :: ·) ih
section
variable {K : PySem.W.Frag} {L : List (Addr × List L2.V)} {T0 : List (Addr × Str)} {Ts As : List Th} {T N : Th} {H H' : Hp}
/-- an object of several parts changed, something new told -/
theorem Hw.upG (h : Hw K L T0 Ts H) (i : Nat) (hi : Ts[i]? = some T) (u : Up T (N :: As) H H') : Hw K L T0 (tG As :: N :: Ts.eraseIdx i) H' := (Hw.mid (As := As) (Bs := Ts.eraseIdx i) (h.up i hi u)).grp
theorem Hw.upG0 (h : Hw K L T0 Ts H) (i : Nat) (hi : Ts[i]? = some T) (u : Up T As H H') : Hw K L T0 (tG As :: Ts.eraseIdx i) H' := (h.up i hi u).grp
theorem Hw.upNG (h : Hw K L T0 Ts H) (u : Up (tG []) As H H') : Hw K L T0 (tG As :: Ts) H' := (h.upN u).grp
end
/-! ### lambdas of one parameter with a default that is a whole number -/
abbrev dlamO (X : Cx) (params : Arguments) (body : Expr) (scope : Scope) (tA : Addr) (doc pm : Value) (c' : Addr) (ctv : Value) : Obj := PySem.W.kdv_obj "<lambda>" (X.env.qual ++ "<lambda>") params (.expr body) scope (cloFrom X.env.cells scope.names []) (.ref tA) doc pm c' ctv
/-- one parameter, not known outside; captured names and globals -/
structure LamD (N : List Str) (sc scope : Scope) : Prop where
  kind : scope.kind = .function
  co : scope.isCoroutine = false
  gen : scope.isGenerator = false
  own : ∀ y ∈ scope.names, y.2 ≠ .cell ∧ (y.2 = .local → y.1 ∉ N)
  free : ∀ y ∈ scope.names, y.2 = .free → sc.names.lookup y.1 = some .cell ∨ sc.names.lookup y.1 = some .free
def lamDB (N : List Str) (sc scope : Scope) : Bool :=
  decide (scope.kind = .function) && !scope.isCoroutine && !scope.isGenerator && scope.names.all fun y => !decide (y.2 = .cell) && (!decide (y.2 = .local) || !decide (y.1 ∈ N)) && (!decide (y.2 = .free) || decide (sc.names.lookup y.1 = some .cell) || decide (sc.names.lookup y.1 = some .free))
theorem lamD_by {N : List Str} {sc scope : Scope} (h : lamDB N sc scope = true) : LamD N sc scope := by
  unfold lamDB at h
  simp only [Bool.and_eq_true, Bool.or_eq_true, Bool.not_eq_true', decide_eq_true_eq, decide_eq_false_iff_not, List.all_eq_true] at h
  obtain ⟨⟨⟨h1, h2⟩, h3⟩, h4⟩ := h
  refine ⟨h1, h2, h3, fun y hy => ⟨(h4 y hy).1.1, fun e => ?_⟩, fun y hy e => ?_⟩
  · rcases (h4 y hy).1.2 with z | z
    · exact absurd e z
    · exact z
  · rcases (h4 y hy).2 with (z | z) | z
    · exact absurd e z
    · exact .inl z
    · exact .inr z
theorem LamD.has {X : Cx} {scope : Scope} (L : LamD X.N X.env.scope scope) (ok : X.Ok) : ∀ y ∈ scope.names, y.2 = .free → ∃ c, X.env.cells.lookup y.1 = some c := fun y hy e => by
  rcases L.free y hy e with k | k
  · exact ok.has _ (.inl k)
  · exact ok.has _ (.inr k)
section
variable {X : Cx} {pins : List (Addr × Obj)} {σ : L2.St} {H HZ : Hp} {s s1 : Shared}
theorem notFr (J : Inv X pins σ H s) {b : Addr} (hb : s.heap.objs.size ≤ b) : b ∉ frs X.stack := fun z => by
  rcases List.mem_cons.mp (J.stkSub _ z) with q | q
  · have hl := J.lt
    rw [← q] at hl
    exact Nat.lt_irrefl _ (Nat.lt_of_lt_of_le hl hb)
  · exact J.nofs hb q
/-- the tail of the making, the tuple of the defaults there -/
theorem lam_tail3 {T : List (Addr × Str)} {c P tA : Addr} {u : Value} {params : Arguments} {body : Expr} {scope : Scope} {pos : Pos} {E : Value → Shared → Prop} {Q : Value → Shared → Prop} (J : Inv X pins σ H s) (TB : LamX.TabB X.base X.mg c P) (ec : X.env.code = .ref c)
    (mm : (P, X.env.qual ++ "<lambda>") ∈ T) (mu : ∀ p ∈ T, p.1 = P → p.2 = X.env.qual ++ "<lambda>") (hT : LamX.Tabs T H) (hfree : ∀ y ∈ scope.names, y.2 = .free → ∃ c, X.env.cells.lookup y.1 = some c) (eA : s.heap.get? tA = some (PySem.W.kdv_tup [u])) (nA : H tA = none) (fA : tA ∉ frs X.stack)
    (h : ∀ (f c' : Addr) (doc pm ctv : Value) (H1 : Hp) (s' : Shared), Inv X pins σ H1 s' → LamX.ExtN H H1 → LamX.Tabs T H1 → s'.heap.get? tA = some (PySem.W.kdv_tup [u]) →
      s'.heap.get? f = some (dlamO X params body scope tA doc pm c' ctv) → H1 f = none → H1 tA = none → f ∉ frs X.stack → H1 c' = some (LamX.CodeO c' (X.env.qual ++ "<lambda>")) → Q (.ref f) s') :
    wpAny (model X.prog X.w) X.A (PySem.makeTail "<lambda>" (X.env.qual ++ "<lambda>") params (.expr body) scope X.env (.ref tA) .none none pos pos.line) Q E s := by
  obtain ⟨ts, tP, t3, tall⟩ := hT _ mm
  have gP : s.heap.get? P = some { cls := .none, data := .fields ts } := J.hok P _ tP
  have bP : s.heap.BuiltinsAt X.mg P := TB.bm.keeps J.bk
  have neA : tA ≠ P := fun z => by
    rw [z, tP] at nA
    cases nA
  cases am : codeAmong pos ts.toList with
  | some cv =>
    obtain ⟨c', ecv, hco⟩ := tall pos cv am
    subst ecv
    refine PySem.W.kdv_makeTailHit (mg := X.mg) (c := c) (P := P) (ps := ts) (closure_ok hfree) J.ok.glob (J.mod.glob.keeps J.bk) ec (TB.code.keeps J.bk) gP t3 am bP fun ctv doc h' tk kx sz => ?_
    have J1 : Inv X pins σ H { s with heap := h'.push (dlamO X params body scope tA doc ((X.mg "__name__").getD .none) c' ctv), toks := tk } := J.kept fun b o e => Heap.get?_push_of_some _ (kx b o e)
    exact h h'.objs.size c' doc _ ctv H _ J1 (LamX.ExtN.refl H) hT (Heap.get?_push_of_some _ (kx _ _ eA)) (Heap.get?_push_size _ rfl) (J.hok.fresh sz) nA (notFr J sz) hco
  | none =>
    refine PySem.W.kdv_makeTail (mg := X.mg) (c := c) (P := P) (ps := ts) (closure_ok hfree) J.ok.glob (J.mod.glob.keeps J.bk) ec (TB.code.keeps J.bk) gP t3 am TB.gP bP fun c' ctv doc h' tk hx ge lt rc gtb => ?_
    obtain ⟨c2, oc, vs, t, ec2, goc, hd, hv⟩ := rc
    cases ec2
    have sz : s.heap.objs.size ≤ h'.objs.size := Nat.le_trans ge (Nat.le_of_lt lt)
    have nC : H c' = none := J.hok.fresh ge
    have J1 := LamX.inv_table (t' := tk) (more := #[rawInt pos.line, rawInt pos.col, .ref c']) (h' := h'.push (dlamO X params body scope tA doc ((X.mg "__name__").getD .none) c' ctv)) J tP
      (fun b o hb e => Heap.get?_push_of_some _ (hx b o hb e)) (Heap.get?_push_of_some _ gtb) ge ⟨oc, vs, t, Heap.get?_push_of_some _ goc, hd, hv⟩
    have eN : LamX.ExtN H (upd (upd H P (.tbl (ts ++ #[rawInt pos.line, rawInt pos.col, .ref c']))) c' (LamX.CodeO c' (X.env.qual ++ "<lambda>"))) := fun b o e n => by
      rw [upd_ne (ne_of_none e nC), upd_ne (fun z => n ts (Option.some.inj (e.symm.trans (by rw [z]; exact tP))))]
      exact e
    have tl : (ts ++ #[rawInt pos.line, rawInt pos.col, .ref c']).toList = ts.toList ++ [rawInt pos.line, rawInt pos.col, .ref c'] := by simp
    have nf : ∀ b, H b = none → b ≠ c' → b ≠ P → upd (upd H P (.tbl (ts ++ #[rawInt pos.line, rawInt pos.col, .ref c']))) c' (LamX.CodeO c' (X.env.qual ++ "<lambda>")) b = none := fun b e n1 n2 => by
      rw [upd_ne n1, upd_ne n2]
      exact e
    refine h h'.objs.size c' doc _ ctv _ _ J1 eN (fun p hp => ?_) (Heap.get?_push_of_some _ (hx _ _ neA eA)) (Heap.get?_push_size _ rfl) (nf _ (J.hok.fresh sz) (Nat.ne_of_gt lt) (Nat.ne_of_gt (Nat.lt_of_lt_of_le (Heap.lt_size gP) sz))) (nf _ nA (fun z => ?_) neA) (notFr J sz) upd_same
    · by_cases y : p.1 = P
      · rw [mu p hp y, y]
        refine ⟨_, by rw [upd_ne (ne_of_none tP nC), upd_same], by rw [tl]; exact PySem.TriplesOk_snoc _ _ _ _ t3, fun p' cv hcv => ?_⟩
        rw [tl] at hcv
        rcases LamX.among_app _ t3 hcv with z | z
        · obtain ⟨c0, q1, q2⟩ := tall p' cv z
          exact ⟨c0, q1, eN _ _ q2 LamX.codeO_ne⟩
        · exact ⟨c', z, upd_same⟩
      · obtain ⟨ts', a1, a2, a3⟩ := hT p hp
        refine ⟨ts', by rw [upd_ne (ne_of_none a1 nC), upd_ne y]; exact a1, a2, fun p' cv hcv => ?_⟩
        obtain ⟨c0, q1, q2⟩ := a3 p' cv hcv
        exact ⟨c0, q1, eN _ _ q2 LamX.codeO_ne⟩
    · have hl := Heap.lt_size eA
      rw [z] at hl
      exact absurd ge (Nat.not_le.mpr hl)
theorem lam_make3 {T : List (Addr × Str)} {c P : Addr} {params : Arguments} {body de : Expr} {scope : Scope} {pos : Pos} {n : Int} {Q : Value → Shared → Prop} (I : Inv X pins σ H s) (TB : LamX.TabB X.base X.mg c P) (ec : X.env.code = .ref c)
    (mm : (P, X.env.qual ++ "<lambda>") ∈ T) (mu : ∀ p ∈ T, p.1 = P → p.2 = X.env.qual ++ "<lambda>") (hT : LamX.Tabs T H) (hdf : params.defaults = [de]) (hkd : params.kw_defaults = []) (hde : PE X de (fun _ H Q => Q (.int n) H)) (hfree : ∀ y ∈ scope.names, y.2 = .free → ∃ c, X.env.cells.lookup y.1 = some c)
    (h : ∀ (f c' tA : Addr) (u doc pm ctv : Value) (H1 : Hp) (s' : Shared), Inv X pins σ H1 s' → LamX.ExtN H H1 → LamX.Tabs T H1 → s'.heap.get? tA = some (PySem.W.kdv_tup [u]) →
      s'.heap.get? f = some (dlamO X params body scope tA doc pm c' ctv) → H1 f = none → H1 tA = none → f ∉ frs X.stack → tA ∉ frs X.stack → H1 c' = some (LamX.CodeO c' (X.env.qual ++ "<lambda>")) → Q (.ref f) s') :
    wpAny (model X.prog X.w) X.A (eval (.Lambda params body scope pos) X.env) Q X.xe s := by
  refine PySem.W.kdv_lam (by rw [hdf]; rfl) hkd ?_
  rw [hdf]
  refine PySem.W.kdv_all1 (thn (hde.run pins s σ H (fun v H' => v = .int n ∧ H' = H) I ⟨rfl, rfl⟩) fun u s1 x => ?_)
  obtain ⟨w, H0, I1, r1, e1, e2⟩ := x
  subst e2
  refine PySem.W.kdv_all0 ?_
  rw [PySem.makeFunction_eq]
  simp only [List.zip_nil_right, List.filterMap_nil, List.isEmpty_nil, if_true, pure_bind, List.isEmpty_cons, Bool.false_eq_true, if_false]
  refine wpAny_bind (wpAny_newTextTuple ?_)
  have J : Inv X pins σ H0 { s1 with heap := s1.heap.push (PySem.W.kdv_tup [u]) } := I1.kept (t' := s1.toks) fun b o e => Heap.get?_push_of_some _ e
  have nA : H0 s1.heap.objs.size = none := I1.hok.fresh (Nat.le_refl _)
  have fA := notFr I1 (Nat.le_refl _)
  exact lam_tail3 (tA := s1.heap.objs.size) J TB ec mm mu hT hfree (Heap.get?_push_size _ rfl) nA fA fun f c' doc pm ctv H1 s' J1 eN T1 gA gf n1 n2 n3 hc => h f c' _ u doc pm ctv H1 s' J1 eN T1 gA gf n1 n2 n3 fA hc
theorem lam_start3 {A : Around} {outer : List Env} {E : XK} {scope : Scope} {f c' : Addr} {h₁ : Heap} {tk : Nat} {m : Str → Option Value} (I : Inv X pins σ H s) (L : LamD X.N X.env.scope scope) (e0 : Env0 X.prog X.w X.K X.mg X.base A outer s1 HZ) (ha : A.handled = none)
    (un : Un (frs X.stack) [] H HZ s.heap s1.heap) (ns : h₁.Ns s1.heap.objs.size m) (kx : ∀ b o, s1.heap.get? b = some o → h₁.get? b = some o) :
    Inv (LamX.lamCx X A outer s1 HZ E scope f c') [] σ HZ { s1 with heap := h₁, toks := tk } := by
  have mem : ∀ {y c}, (cloFrom X.env.cells scope.names []).lookup y = some c → X.env.cells.lookup y = some c := fun {y c} e => by
    rcases cloFrom_mem (PySem.mem_of_lookup e) with z | ⟨q1, q2⟩
    · cases z
    · obtain ⟨d, hd⟩ := L.has I.ok _ q1 rfl
      have hd : X.env.cells.lookup y = some d := hd
      have ed : c = d := by
        rw [q2, hd] <;> rfl
      rw [ed]
      exact hd
  have fnd : ∀ {y}, scope.names.lookup y = some .free → ∃ c, (cloFrom X.env.cells scope.names []).lookup y = some c := fun {y} q => by
    have z : (y, NameKind.free) ∈ scope.names := PySem.mem_of_lookup q
    exact mem_lookup (cloFrom_has (cells := X.env.cells) (acc := []) z)
  have cK : ∀ {c : Addr} {v : Option Value}, H c = none → s.heap.IsCell c v → h₁.IsCell c v := fun {c v} n ⟨o, ho, hd⟩ => by
    obtain ⟨sl, q⟩ := un.any ho n (by simp)
    exact ⟨_, kx _ _ q, hd⟩
  have no0 : ∀ b : Addr, b ∉ (LamX.lamCx X A outer s1 HZ E scope f c').ex := fun b z => absurd (show b ∈ ([] : List Addr) from z) (by simp)
  refine ⟨⟨e0.mod, L.kind, rfl, rfl, Nat.le_refl _, fun y z c e1 e2 => I.ok.inj y z c (mem e1) (mem e2), fun y hy => ?_, fun y c z _ => ?_, fun _ => ha, Around.frames_deeper e0.frames, .inr ⟨rfl, rfl⟩, fun b z => absurd z (no0 b), e0.bs, e0.bsz, fun b _ _ => no0 b,
      fun b z => absurd z (no0 b), e0.funs, e0.frf⟩,
    rfl, e0.bare, Un.kept kx, ⟨_, ns, fun i y v e1 e2 e3 => ?_⟩, fun y c e => ?_, e0.hok.fresh (Nat.le_refl _), fun y c e => ?_, fun q hq => absurd (show q ∈ ([] : List (Addr × Obj)) ++ [] from hq) (by simp), e0.hok.kept kx, I.len⟩
  · have hy : scope.names.lookup y = some .cell ∨ scope.names.lookup y = some .free := hy
    rcases hy with hy | hy
    · exact absurd rfl (L.own _ (PySem.mem_of_lookup hy)).1
    · exact fnd hy
  · have z : false = true := z
    cases z
  · have e3 : Vis scope y := e3
    rcases e3 with k | k | k
    · exact absurd (List.mem_of_getElem? e1) ((L.own _ (PySem.mem_of_lookup k)).2 rfl)
    · exact absurd rfl (L.own _ (PySem.mem_of_lookup k)).1
    · obtain ⟨m, hn, hl⟩ := I.loc
      have vis : Vis X.env.scope y := (L.free _ (PySem.mem_of_lookup k) rfl).elim (fun k => .inr (.inl k)) (fun k => .inr (.inr k))
      obtain ⟨w', r, q⟩ := hl i y v e1 e2 vis
      obtain ⟨c2, z2⟩ := fnd k
      refine ⟨w', r, .inr ⟨.inr k, c2, z2, ?_⟩⟩
      have z1 := mem z2
      rcases q with ⟨k', _⟩ | ⟨_, c3, e', z⟩
      · have k' : X.env.scope.names.lookup y = some .local := k'
        rcases L.free _ (PySem.mem_of_lookup k) rfl with k2 | k2 <;> rw [show X.env.scope.names.lookup y = _ from k2] at k' <;> cases k'
      · rw [z1] at e'
        cases e'
        exact cK (I.freeC y _ z1) z
  · obtain ⟨w', z⟩ := I.cell y c (mem e)
    exact ⟨w', cK (I.freeC y c (mem e)) z⟩
  · obtain ⟨v, o, ho, hd⟩ := I.cell y c (mem e)
    exact un.free c o ho (I.freeC y c (mem e)) (by simp)
/-- x() in the def that got such a lambda -/
theorem pe_act3 {CXg : CXT} {Eg : XK} {Ng : List Str} {qg : Str} {sg : Scope} {g f c' tA : Addr} {cdg pm doc ctv u : Value} {params : Arguments} {body : Expr} {scope : Scope} {k i : Nat} {a b : Str} {pn : List (Addr × Obj)} {xe : Value → Shared → Prop} {W : WX} {E : XK} {tb : TE} {p1 p2 : Pos}
    (I : Inv X pins σ H s) (L : LamD X.N X.env.scope scope) (gf : s.heap.get? f = some (dlamO X params body scope tA doc pm c' ctv)) (nf : H f = none) (ff : f ∉ frs X.stack) (gA : s.heap.get? tA = some (PySem.W.kdv_tup [u])) (nA : H tA = none) (fA : tA ∉ frs X.stack)
    (hbind : ∀ (s : Shared) (q : Str) (cl : List (Str × Addr)) (tA : Addr) (doc pm cv ctv u : Value), s.heap.get? tA = some (PySem.W.kdv_tup [u]) → BindsTo s (PySem.W.kdv_fn "<lambda>" q params (.expr body) scope cl (.ref tA) doc pm cv ctv) ⟨[], []⟩ [(b, u)]) (hb : scope.names.lookup b = some .local)
    (tk : Takes ((cxOf CXg X.prog X.w X.K X.mg X.base Ng qg sg g cdg X.A X.stack s H Eg).tr pn xe) W) (hW : ∀ cls d σ' H', E cls d H' → W cls d σ' H') (hr : Room (k + 1) (X.A.deeper (envOfC qg sg s.heap.objs.size g cdg)))
    (hbody : ∀ (A : Around) (outer : List Env) (s : Shared) (H : Hp), Room k (A.deeper (LamX.lamEnv X scope s.heap.objs.size f c')) → PE (LamX.lamCx X A outer s H E scope f c') body tb)
    (hN : Ng[i]? = some a) (hv : Vis sg a) (hd : (a == ("__debug__" : Str)) = false := by decide) (hcd : (a == ("__classdict__" : Str)) = false := by decide) :
    PE ((cxOf CXg X.prog X.w X.K X.mg X.base Ng qg sg g cdg X.A X.stack s H Eg).tr pn xe) (.Call (.Name a p1) [] [] p2)
      (fun σZ HZ Q => σZ[i]? = some (some (.ref f)) ∧ HZ c' = some (LamX.CodeO c' (X.env.qual ++ "<lambda>")) ∧ tb σ HZ Q) := by
  refine ⟨fun pinsZ sZ σZ HZ Q IZ h => ?_⟩
  obtain ⟨e0, hco, ht⟩ := h
  refine wpAny_Call_Name_kw (thn ((pe_var (pos := p1) (i := i) hN hv hd hcd).run pinsZ sZ σZ HZ (fun v H1 => v = .ref f ∧ H1 = HZ) IZ ⟨.ref f, e0, rfl, rfl⟩) fun w s1 ⟨v, H1, I1, r1, q1⟩ => ?_)
  obtain ⟨ev, eH⟩ := q1
  subst ev
  rw [eH] at I1
  obtain rfl : w = Value.ref f := r1
  have none0 : ∀ b : Addr, b ∉ ([] : List Addr) := fun b z => nomatch z
  have of1 : s1.heap.get? f = some (dlamO X params body scope tA doc pm c' ctv) := I1.base.keep f _ gf nf ff (none0 f)
  have oA1 : s1.heap.get? tA = some (PySem.W.kdv_tup [u]) := I1.base.keep tA _ gA nA fA (none0 tA)
  refine PySem.W.callWith_F0 ⟨_, _, _, _, of1⟩ ?_
  have un : Un (frs X.stack) [] H HZ s.heap s1.heap := I1.base
  obtain ⟨⟨oc, vs, t, goc, hdc, hvc⟩, _, _⟩ := I1.hok c' _ hco
  have rc : codeAny (model X.prog X.w) (X.A.deeper (envOfC qg sg s.heap.objs.size g cdg)) (.call (.ref f) ⟨[], []⟩) (CR (L2.CX X.prog X.w) (envOfC qg sg s.heap.objs.size g cdg :: X.stack) X.prog X.w HZ s1 Q E) s1 := by
    refine PySem.W.kla_callFunE hr.depth of1 rfl L.co L.gen rfl ⟨c', oc, vs, t, rfl, goc, hdc, hvc⟩ (hbind s1 _ _ _ _ _ _ _ _ oA1 _ _ _ _ ?_)
    refine wpAny_newFunctionEnv (fun y hy => (L.own y hy).1) (fun y hy => by rw [List.mem_singleton.mp hy]; exact hb) (fun h₁ ns hsb => ⟨I1.nolimit.fresh _ hsb, ?_⟩) L.kind
    show codeAny _ _ (.expr body (LamX.lamEnv X scope s1.heap.objs.size f c')) _ _
    have kx : ∀ b o, s1.heap.get? b = some o → h₁.get? b = some o := fun b o e => hsb.extBut b o (Nat.ne_of_lt (Heap.lt_size e)) (Heap.get?_push_of_some _ e)
    have J : Inv (LamX.lamCx X (X.A.deeper (envOfC qg sg s.heap.objs.size g cdg)) (envOfC qg sg s.heap.objs.size g cdg :: X.stack) s1 HZ E scope f c') [] σ HZ { s1 with heap := h₁, toks := s1.toks + ([(b, u)] : List (Str × Value)).length } :=
      lam_start3 I L I1.env0 hr.hd un ns kx
    refine PySem.W.kla_codeExpr (wpAny_mono ((hbody _ _ s1 HZ (hr.deeper _)).run [] _ _ HZ Q J ht) (fun v s' hq => ?_) fun e s' hq => hq)
    obtain ⟨w', H', J', rv, q⟩ := hq
    exact ⟨w', H', J'.os, J'.bare, J'.base, J'.hok, rv, q⟩
  have hx : Passes (L2.CX X.prog X.w) ((cxOf CXg X.prog X.w X.K X.mg X.base Ng qg sg g cdg X.A X.stack s H Eg).tr pn xe) E := passes_call tk hW
  refine wpAny_call (codeAny_mono rc fun r s' hq => ?_)
  cases r with
  | error e => exact hx pinsZ σZ HZ s1 e s' I1 hq
  | ok fl =>
    cases fl with
    | ret u => exact I1.after hq
    | next => exact False.elim hq
    | brk => exact False.elim hq
    | cont => exact False.elim hq
end
section
variable {X : Cx} {TT : (XK → Hp → VK → Prop) → Hp → VK → Prop} {x a b : Str} {g f c' tA : Addr} {k : Nat} {pg : Arguments} {bg : List Stmt} {sg : Scope} {dV kV doc pm cdv ct oc : Value} {doc' pm' ctv u : Value} {an od : Option Addr} {osl : Array (Option Value)} {Ng : List Str}
  {params : Arguments} {body ea : Expr} {scope : Scope} {t : XK → TE} {p pos : Pos} {j : Nat}
/-- g(x), where x is a lambda with a default that was kept -/
theorem pe_actname3 {q : Str} (hq : X.env.qual ++ "<lambda>" = q) (hpin : (f, dlamO X params body scope tA doc' pm' c' ctv) ∈ X.pn) (hpA : (tA, PySem.W.kdv_tup [u]) ∈ X.pn) (hfr : f ∉ frs X.stack) (hfA : tA ∉ frs X.stack) (hg : Gl X x) (hm : X.mg x = some (.ref g)) (hk : PySem.W.keepIn X.K (.ref g) = true) (lk : X.K.lookup g = some ⟨oc, od, .func (PySem.W.fnOf x x pg bg sg dV kV doc pm an cdv ct), osl⟩)
    (hcg : PySem.W.codeIn X.K cdv x = true) (hb : L2.Binds X.K (PySem.W.fnOf x x pg bg sg dV kV doc pm an cdv ct) [a] []) (Sg : FnScope Ng [a] sg) (hNg : Ng[0]? = some a) (hva : Vis sg a) (hG : LamX.GivesTo X Ng x sg g cdv bg a (X.env.qual ++ "<lambda>") TT)
    (hr : Room (k + 2) X.A) (L : LamD X.N X.env.scope scope) (hbind : ∀ (s : Shared) (q : Str) (cl : List (Str × Addr)) (tA : Addr) (doc pm cv ctv u : Value), s.heap.get? tA = some (PySem.W.kdv_tup [u]) → BindsTo s (PySem.W.kdv_fn "<lambda>" q params (.expr body) scope cl (.ref tA) doc pm cv ctv) ⟨[], []⟩ [(b, u)]) (hbl : scope.names.lookup b = some .local)
    (hbody : ∀ (A : Around) (outer : List Env) (s : Shared) (H : Hp) (E : XK) (f c' : Addr), Room k (A.deeper (LamX.lamEnv X scope s.heap.objs.size f c')) → PE (LamX.lamCx X A outer s H E scope f c') body (t E)) (ha : PE X ea (tVar j))
    (hdb : (x == ("__debug__" : Str)) = false := by decide) (hd : (a == ("__debug__" : Str)) = false := by decide) (hcd : (a == ("__classdict__" : Str)) = false := by decide)
    (he : starEach [ea] X.env = (false, eval ea X.env) :: starEach [] X.env := by rfl) (hpl : (backTo pos (starEach [] X.env)).any (·.1) = false := by rfl) :
    PE X (.Call (.Name x p) [ea] [] pos) (fun σ H Q => σ[j]? = some (some (.ref f)) ∧ H c' = some (LamX.CodeO c' q) ∧ TT (fun E H' Q' => t E σ H' Q') H Q) := by
  refine ⟨fun pins s σ H Q I h => wpAny_Call_Name_kw (ld_glob I hg hm (PySem.W.callWith_K I.ok.mod.kin hk ?_ he hpl) hdb)⟩
  subst hq
  obtain ⟨hσ, hco, hT⟩ := h
  refine thn ((pa_cons ha pa_nil he).run pos pins s σ H (fun vs H1 => vs = [.ref f] ∧ H1 = H) I ⟨_, hσ, rfl, rfl⟩) fun us s1 y => ?_
  obtain ⟨vs, H1, I1, r1, rfl, rfl⟩ := y
  obtain ⟨w, rfl, rw_⟩ := r1.one
  have rw2 : w = Value.ref f := rw_
  subst rw2
  refine ⟨I1.kIn, ?_⟩
  obtain ⟨hf, hfn, _⟩ := I1.pin _ (List.mem_append_left _ hpin)
  obtain ⟨hA, hAn, _⟩ := I1.pin _ (List.mem_append_left _ hpA)
  have rc := LamX.run_ofS (CX := C8.CX0) (E := C8.E0) (Q := Q) lk hcg Sg hr I1.env0 (hb s1 [Value.ref f] I1.kIn rfl) (show Vals [V.ref f] [Value.ref f] from .cons rfl .nil) rfl (fun hr' => by
    obtain ⟨t', ht', hq'⟩ := hG f c' s1 H1 Q (fun E H' Q' => t E σ H' Q') (fun W pn xe E p1 p2 tk hW => pe_act3 I1 L hf hfn hfr hA hAn hfA hbind hbl tk hW hr' (fun A outer s H hr2 => hbody A outer s H E f c' hr2) hNg hva hd hcd) hco hT
    exact ⟨t', ht'.nox, hq'⟩)
  refine wpAny_call (codeAny_mono rc fun r s2 hq => ?_)
  cases r with
  | error e => exact (show False from hq).elim
  | ok fl =>
    cases fl with
    | next => exact (show False from hq).elim
    | brk => exact (show False from hq).elim
    | cont => exact (show False from hq).elim
    | ret u => exact I1.after hq
end
section
variable {X : Cx} {T : List (Addr × Str)} {c P : Addr} {params params2 : Arguments} {body body2 de : Expr} {scope scope2 : Scope} {lpos lpos2 lp py pos : Pos} {y : Str} {i : Nat} {n : Int} {rest : List Stmt} {u : Addr → Addr → Addr → Addr → TS}
/-- xs = [lambda: e, lambda a=n: e2] -/
theorem pss_lamset2 {q : Str} (hq : X.env.qual ++ "<lambda>" = q) (hst : X.stack = X.env :: X.outer) (hfm : X.env.frame = some X.env.locals) (hN : X.N.Nodup) (hi : X.N[i]? = some y) (hy : Loc X.env.scope y) (TB : LamX.TabB X.base X.mg c P) (hcode : X.env.code = .ref c) (hmT : (P, X.env.qual ++ "<lambda>") ∈ T)
    (hu : ∀ p ∈ T, p.1 = P → p.2 = X.env.qual ++ "<lambda>") (L : LamX.LamS X.env.scope scope) (hdef : defaultsOf params X.env = ([], [])) (M2 : LamD X.N X.env.scope scope2) (hdf : params2.defaults = [de]) (hkd : params2.kw_defaults = [])
    (hde : ∀ pn xe, PE (X.tr pn xe) de (fun _ H Q => Q (.int n) H))
    (hrest : ∀ (f c' f2 c2 tA : Addr) (pm ctv u2 doc2 pm2 ctv2 : Value) (pn' : List (Addr × Obj)), f ∉ frs X.stack → (f, lamO X params body scope pm c' ctv) ∈ pn' → f2 ∉ frs X.stack → tA ∉ frs X.stack → (f2, dlamO X params2 body2 scope2 tA doc2 pm2 c2 ctv2) ∈ pn' → (tA, PySem.W.kdv_tup [u2]) ∈ pn' → (∀ p ∈ X.pn, p ∈ pn') → PSs (X.tr pn' X.xe) rest (u f c' f2 c2))
    (hs : swapsWith (.List [.Lambda params body scope lpos, .Lambda params2 body2 scope2 lpos2] lp) (some (.Name y py)) pos.line X.env = pure false := by rfl) (hl : X.fn y = true ∨ X.env.scope.names.lookup y = some .local := by first | exact .inr rfl | exact .inl rfl) :
    PSs X (.Assign [.Name y py] (.List [.Lambda params body scope lpos, .Lambda params2 body2 scope2 lpos2] lp) pos :: rest)
      (fun D σ H => LamX.Tabs T H ∧ ∀ (f c' f2 c2 : Addr) (H1 H2 : Hp), LamX.ExtN H H1 → LamX.Tabs T H1 → H1 f = none → H1 c' = some (LamX.CodeO c' q) → LamX.ExtN H1 H2 → LamX.Tabs T H2 → H2 f = none → H2 f2 = none → H2 c' = some (LamX.CodeO c' q) → H2 c2 = some (LamX.CodeO c2 q) → ∀ p, H2 p = none → u f c' f2 c2 D (σ.set i (some (.ref p))) (upd H2 p (.lst [.ref f, .ref f2]))) := by
  refine ⟨fun pins s σ H D I h => ?_⟩
  subst hq
  obtain ⟨hT, h⟩ := h
  have kk := I.ok
  refine wpAny_execs_cons (wpAny_Assign_Name (wpAny_List_spliced ?_) hs)
  show wpAny _ _ (spliced [(false, _), (false, _)]) _ _ _
  refine Calls.spliced_cons (LamX.lam_make2 I TB hcode hmT hu hT hdef (L.has I.ok) fun f c' pm ctv H1 s' I1 eN T1 hf hfn hfr hco => ?_)
  have I2 := inv_pin I1 hst hfm hf hfn hfr (fun v z => by cases z)
  have hX : X.tr X.pn X.xe = X := rfl
  refine Calls.spliced_cons (lam_make3 I2 TB hcode hmT hu T1 hdf hkd (hX ▸ hde X.pn X.xe) (M2.has I.ok) fun f2 c2 tA u2 doc2 pm2 ctv2 H2 s2 J1 eN2 T2 gA gf2 nf2 nA ff2 fA hco2 => Calls.spliced_nil ⟨(by show 2 ≤ sizeLine; decide), ?_⟩)
  have J2 := inv_pin J1 hst hfm gA nA fA (fun v z => by cases z)
  have J3 := inv_pin J2 hst hfm gf2 nf2 ff2 (fun v z => by cases z)
  have hfresh := J3.hok.fresh (Nat.le_refl s2.heap.objs.size)
  have nf : H2 f = none := (J3.pin (f, lamO X params body scope pm c' ctv) (by simp)).2.1
  have J4 : Inv X (pins ++ [(f, lamO X params body scope pm c' ctv)] ++ [(tA, PySem.W.kdv_tup [u2])] ++ [(f2, dlamO X params2 body2 scope2 tA doc2 pm2 c2 ctv2)]) σ (upd H2 s2.heap.objs.size (.lst [.ref f, .ref f2])) { s2 with heap := s2.heap.push { cls := .type "list", data := .seq (List.toArray [Value.ref f, Value.ref f2]) } } :=
    J3.laid (t' := s2.toks) (fun b w e => Heap.get?_push_of_some _ e) (Nat.le_refl _) ⟨(by show 2 ≤ sizeLine; decide), [Value.ref f, Value.ref f2], 0, .cons rfl (.cons rfl .nil), Heap.get?_push_size s2.heap rfl⟩
  refine store_ok (v := .ref s2.heap.objs.size) J4 hN hi hy rfl (fun s3 I4 => ?_) hl
  have I5 : Inv X (pins ++ ([(f, lamO X params body scope pm c' ctv)] ++ [(tA, PySem.W.kdv_tup [u2])] ++ [(f2, dlamO X params2 body2 scope2 tA doc2 pm2 c2 ctv2)])) (σ.set i (some (.ref s2.heap.objs.size))) (upd H2 s2.heap.objs.size (.lst [.ref f, .ref f2])) s3 := by rw [← List.append_assoc, ← List.append_assoc]; exact I4
  have kr := (hrest f c' f2 c2 tA pm ctv u2 doc2 pm2 ctv2 (X.pn ++ (pins ++ ([(f, lamO X params body scope pm c' ctv)] ++ [(tA, PySem.W.kdv_tup [u2])] ++ [(f2, dlamO X params2 body2 scope2 tA doc2 pm2 c2 ctv2)]))) hfr (by simp) ff2 fA (by simp) (by simp) (fun p hp => List.mem_append_left _ hp)).run [] s3 _ _ D (I5.toTry X.xe) (h f c' f2 c2 H1 H2 eN T1 hfn hco eN2 T2 nf nf2 (eN2 _ _ hco (fun ps => LamX.codeO_ne ps)) hco2 _ hfresh)
  exact wpAny_mono kr (fun fl z hsp => sp_back kk hsp) (fun _ _ y => y)
end
end WB
namespace WB
open PySem PySem.Spec PyProof.Rows L2
def topS (i : Nat) : Stmt := PySem.Challenge.pw_warbleline_k45_whole_links_over_loss.main.body.getD i (.Pass ⟨0, 0, 0, 0⟩)
abbrev s_LineError : Stmt := topS 1
abbrev s_BadBit : Stmt := topS 2
abbrev s_BadByte : Stmt := topS 3
abbrev s_BadCode : Stmt := topS 4
abbrev s_BadFrame : Stmt := topS 5
abbrev s_BadCount : Stmt := topS 6
abbrev s_TooLong : Stmt := topS 7
abbrev s_Full : Stmt := topS 8
abbrev s_check_bits : Stmt := topS 13
abbrev s_check_bytes : Stmt := topS 14
abbrev s_bits_of : Stmt := topS 15
abbrev s_number_bits : Stmt := topS 16
abbrev s_bits_number : Stmt := topS 17
abbrev s_has_room : Stmt := topS 23
abbrev s_words_at_beginning : Stmt := topS 24
abbrev s_longest_code : Stmt := topS 25
abbrev s_word_of : Stmt := topS 26
abbrev s_learn : Stmt := topS 27
abbrev s_numbers_behind_first : Stmt := topS 28
abbrev s_Book : Stmt := topS 29
abbrev m_Book___init__ : Stmt := inClass s_Book 0
abbrev m_Book___eq__ : Stmt := inClass s_Book 1
abbrev m_Book___len__ : Stmt := inClass s_Book 2
abbrev m_Book___repr__ : Stmt := inClass s_Book 3
abbrev m_Book_shorten : Stmt := inClass s_Book 4
abbrev m_Book_lengthen : Stmt := inClass s_Book 5
abbrev m_Book_pack : Stmt := inClass s_Book 6
abbrev m_Book_unpack : Stmt := inClass s_Book 7
abbrev m_Book_learnt : Stmt := inClass s_Book 8
abbrev m_Book_twin : Stmt := inClass s_Book 9
abbrev s_head_of : Stmt := topS 37
abbrev s_has_form : Stmt := topS 38
abbrev s_parted : Stmt := topS 39
abbrev s_Intake : Stmt := topS 40
abbrev m_Intake___init__ : Stmt := inClass s_Intake 0
abbrev m_Intake_take_piece : Stmt := inClass s_Intake 1
abbrev m_Intake_twin : Stmt := inClass s_Intake 2
abbrev s_Link : Stmt := topS 41
abbrev m_Link___init__ : Stmt := inClass s_Link 0
abbrev m_Link_hand : Stmt := inClass s_Link 1
abbrev m_Link_frame : Stmt := inClass s_Link 2
abbrev m_Link_take : Stmt := inClass s_Link 3
abbrev m_Link_end_answered : Stmt := inClass s_Link 4
abbrev m_Link_open_places : Stmt := inClass s_Link 5
abbrev m_Link_waiting : Stmt := inClass s_Link 6
abbrev m_Link_unanswered : Stmt := inClass s_Link 7
abbrev m_Link_awaited : Stmt := inClass s_Link 8
abbrev m_Link_idle : Stmt := inClass s_Link 9
abbrev m_Link_twin : Stmt := inClass s_Link 10
abbrev s__law_bag : Stmt := topS 43
abbrev s__law_pick : Stmt := topS 44
abbrev s__law_same : Stmt := topS 45
abbrev s__law_row : Stmt := topS 46
abbrev s_law : Stmt := topS 47
section
variable {P : Program} {w : World} {K : PySem.W.Frag} {mg : Str → Option Value} {base : Heap}
abbrev i_LineError : Stmt := inClass s_LineError 0
theorem sc_i_LineError : FnScope ["self", "word", "text"] ["self", "word", "text"] (defScope i_LineError) := ⟨rfl, rfl, rfl, by decide +kernel, rfl, by decide +kernel, by decide +kernel⟩
theorem ok_i_LineError {f : Addr} {fd : FuncData} {k : Nat} {dvs : List V} (F : FunD K "__init__" "LineError.__init__" (defArgs i_LineError) (defBody i_LineError) (defScope i_LineError) dvs [] f fd) (n_ValueError : mg "ValueError" = none) (vV : PySem.W.findCls K (.type "ValueError") (.type "type") "__init__" = some (.val (.builtin "ValueError.__init__"))) :
    FnOk P w K mg base CX0 (k + 1) f fd ["self", "word", "text"] (spLE K) := by
  have sc := sc_i_LineError
  refine F.ok sc (fun vs H Q E h => ?_) (fun cdv A outer s H vs Q E hr h => ?_)
  · obtain ⟨a, C, w, t, rfl, _⟩ := h
    rfl
  · obtain ⟨a, C, w, t, rfl, hC, hw, ha, q⟩ := h
    refine ⟨_, PSs.nox (pss_cons (ps_expr (pe_veinit (by rfl) n_ValueError vV (pa_cons (pv 0) (pa_cons (pv 2) pa_nil)))) (pss_one (ps_ost (pv 0) (pv 1)))), ?_⟩
    refine ⟨_, rfl, _, rfl, a, C, [t], rfl, by show 1 ≤ 1000; decide, hC, ha, ?_⟩
    exact ⟨_, rfl, _, rfl, a, C, rfl, hC, hw, .inl ⟨ha, fun d nd da => q d nd da⟩⟩
abbrev i_BadBit : Stmt := inClass s_BadBit 0
theorem sc_i_BadBit : FnScope ["self", "at"] ["self", "at"] (defScope i_BadBit) := ⟨rfl, rfl, rfl, by decide +kernel, rfl, by decide +kernel, by decide +kernel⟩
theorem ok_i_BadBit {f fL C CL : Addr} {fd fdL : FuncData} {k : Nat} (F : Fun K "__init__" "BadBit.__init__" i_BadBit f fd) (TL : ClsFn K mg "LineError" "__init__" CL fL) (FL : FnOk P w K mg base CX0 k fL fdL ["self", "word", "text"] (spLE K)) (bL : Binds K fdL ["self", "word", "text"] [])
    (hC : OexC K C) (hw : PySem.W.findIn K (.ref C) "word" = some none) (hf : PySem.W.findIn K (.ref C) "at" = some none) : FnOk P w K mg base CX0 (k + 1) f fd ["self", "at"] (spIni K C "BadBit" "at") := by
  have sc := sc_i_BadBit
  refine F.ok sc (fun vs H Q E h => ?_) (fun cdv A outer s H vs Q E hr h => ?_)
  · obtain ⟨a, i, rfl, _⟩ := h
    rfl
  · obtain ⟨a, i, rfl, hi, ha, q⟩ := h
    refine ⟨_, (pss_cons (ps_expr (pe_clsfn TL FL hr bL pass0 (by rfl) (pa_cons (pv 0) (pa_cons pe_str (pa_cons (pe_joined (.cons pe_str (.cons (pe_fmt (pv 1)) .nil))) pa_nil))))) (pss_one (ps_ost (pv 0) (pv 1)))), ?_⟩
    refine ⟨_, rfl, _, rfl, (by decide +kernel), _, rfl, .inr ⟨i, rfl, by omega, _, rfl, txt_fits (by decide +kernel) hi, ?_⟩⟩
    refine ⟨a, C, _, _, rfl, hC, hw, ha, fun d nd da => ?_⟩
    refine ⟨_, rfl, _, rfl, a, C, rfl, hC, hf, .inr ⟨d, _, upd_same, ?_, by show 1 ≤ 900; decide, q d nd da⟩⟩
    rw [upd_ne da, upd_same]
abbrev i_BadByte : Stmt := inClass s_BadByte 0
theorem sc_i_BadByte : FnScope ["self", "at"] ["self", "at"] (defScope i_BadByte) := ⟨rfl, rfl, rfl, by decide +kernel, rfl, by decide +kernel, by decide +kernel⟩
theorem ok_i_BadByte {f fL C CL : Addr} {fd fdL : FuncData} {k : Nat} (F : Fun K "__init__" "BadByte.__init__" i_BadByte f fd) (TL : ClsFn K mg "LineError" "__init__" CL fL) (FL : FnOk P w K mg base CX0 k fL fdL ["self", "word", "text"] (spLE K)) (bL : Binds K fdL ["self", "word", "text"] [])
    (hC : OexC K C) (hw : PySem.W.findIn K (.ref C) "word" = some none) (hf : PySem.W.findIn K (.ref C) "at" = some none) : FnOk P w K mg base CX0 (k + 1) f fd ["self", "at"] (spIni K C "BadByte" "at") := by
  have sc := sc_i_BadByte
  refine F.ok sc (fun vs H Q E h => ?_) (fun cdv A outer s H vs Q E hr h => ?_)
  · obtain ⟨a, i, rfl, _⟩ := h
    rfl
  · obtain ⟨a, i, rfl, hi, ha, q⟩ := h
    refine ⟨_, (pss_cons (ps_expr (pe_clsfn TL FL hr bL pass0 (by rfl) (pa_cons (pv 0) (pa_cons pe_str (pa_cons (pe_joined (.cons pe_str (.cons (pe_fmt (pv 1)) .nil))) pa_nil))))) (pss_one (ps_ost (pv 0) (pv 1)))), ?_⟩
    refine ⟨_, rfl, _, rfl, (by decide +kernel), _, rfl, .inr ⟨i, rfl, by omega, _, rfl, txt_fits (by decide +kernel) hi, ?_⟩⟩
    refine ⟨a, C, _, _, rfl, hC, hw, ha, fun d nd da => ?_⟩
    refine ⟨_, rfl, _, rfl, a, C, rfl, hC, hf, .inr ⟨d, _, upd_same, ?_, by show 1 ≤ 900; decide, q d nd da⟩⟩
    rw [upd_ne da, upd_same]
abbrev i_BadCode : Stmt := inClass s_BadCode 0
theorem sc_i_BadCode : FnScope ["self", "at"] ["self", "at"] (defScope i_BadCode) := ⟨rfl, rfl, rfl, by decide +kernel, rfl, by decide +kernel, by decide +kernel⟩
theorem ok_i_BadCode {f fL C CL : Addr} {fd fdL : FuncData} {k : Nat} (F : Fun K "__init__" "BadCode.__init__" i_BadCode f fd) (TL : ClsFn K mg "LineError" "__init__" CL fL) (FL : FnOk P w K mg base CX0 k fL fdL ["self", "word", "text"] (spLE K)) (bL : Binds K fdL ["self", "word", "text"] [])
    (hC : OexC K C) (hw : PySem.W.findIn K (.ref C) "word" = some none) (hf : PySem.W.findIn K (.ref C) "at" = some none) : FnOk P w K mg base CX0 (k + 1) f fd ["self", "at"] (spIni K C "BadCode" "at") := by
  have sc := sc_i_BadCode
  refine F.ok sc (fun vs H Q E h => ?_) (fun cdv A outer s H vs Q E hr h => ?_)
  · obtain ⟨a, i, rfl, _⟩ := h
    rfl
  · obtain ⟨a, i, rfl, hi, ha, q⟩ := h
    refine ⟨_, (pss_cons (ps_expr (pe_clsfn TL FL hr bL pass0 (by rfl) (pa_cons (pv 0) (pa_cons pe_str (pa_cons (pe_joined (.cons pe_str (.cons (pe_fmt (pv 1)) .nil))) pa_nil))))) (pss_one (ps_ost (pv 0) (pv 1)))), ?_⟩
    refine ⟨_, rfl, _, rfl, (by decide +kernel), _, rfl, .inr ⟨i, rfl, by omega, _, rfl, txt_fits (by decide +kernel) hi, ?_⟩⟩
    refine ⟨a, C, _, _, rfl, hC, hw, ha, fun d nd da => ?_⟩
    refine ⟨_, rfl, _, rfl, a, C, rfl, hC, hf, .inr ⟨d, _, upd_same, ?_, by show 1 ≤ 900; decide, q d nd da⟩⟩
    rw [upd_ne da, upd_same]
abbrev i_BadFrame : Stmt := inClass s_BadFrame 0
theorem sc_i_BadFrame : FnScope ["self", "at"] ["self", "at"] (defScope i_BadFrame) := ⟨rfl, rfl, rfl, by decide +kernel, rfl, by decide +kernel, by decide +kernel⟩
theorem ok_i_BadFrame {f fL C CL : Addr} {fd fdL : FuncData} {k : Nat} (F : Fun K "__init__" "BadFrame.__init__" i_BadFrame f fd) (TL : ClsFn K mg "LineError" "__init__" CL fL) (FL : FnOk P w K mg base CX0 k fL fdL ["self", "word", "text"] (spLE K)) (bL : Binds K fdL ["self", "word", "text"] [])
    (hC : OexC K C) (hw : PySem.W.findIn K (.ref C) "word" = some none) (hf : PySem.W.findIn K (.ref C) "at" = some none) : FnOk P w K mg base CX0 (k + 1) f fd ["self", "at"] (spIni K C "BadFrame" "at") := by
  have sc := sc_i_BadFrame
  refine F.ok sc (fun vs H Q E h => ?_) (fun cdv A outer s H vs Q E hr h => ?_)
  · obtain ⟨a, i, rfl, _⟩ := h
    rfl
  · obtain ⟨a, i, rfl, hi, ha, q⟩ := h
    refine ⟨_, (pss_cons (ps_expr (pe_clsfn TL FL hr bL pass0 (by rfl) (pa_cons (pv 0) (pa_cons pe_str (pa_cons (pe_joined (.cons pe_str (.cons (pe_fmt (pv 1)) .nil))) pa_nil))))) (pss_one (ps_ost (pv 0) (pv 1)))), ?_⟩
    refine ⟨_, rfl, _, rfl, (by decide +kernel), _, rfl, .inr ⟨i, rfl, by omega, _, rfl, txt_fits (by decide +kernel) hi, ?_⟩⟩
    refine ⟨a, C, _, _, rfl, hC, hw, ha, fun d nd da => ?_⟩
    refine ⟨_, rfl, _, rfl, a, C, rfl, hC, hf, .inr ⟨d, _, upd_same, ?_, by show 1 ≤ 900; decide, q d nd da⟩⟩
    rw [upd_ne da, upd_same]
abbrev i_BadCount : Stmt := inClass s_BadCount 0
theorem sc_i_BadCount : FnScope ["self"] ["self"] (defScope i_BadCount) := ⟨rfl, rfl, rfl, by decide +kernel, rfl, by decide +kernel, by decide +kernel⟩
theorem ok_i_BadCount {f fL C CL : Addr} {fd fdL : FuncData} {k : Nat} (F : Fun K "__init__" "BadCount.__init__" i_BadCount f fd) (TL : ClsFn K mg "LineError" "__init__" CL fL) (FL : FnOk P w K mg base CX0 k fL fdL ["self", "word", "text"] (spLE K)) (bL : Binds K fdL ["self", "word", "text"] [])
    (hC : OexC K C) (hw : PySem.W.findIn K (.ref C) "word" = some none) : FnOk P w K mg base CX0 (k + 1) f fd ["self"] (spIni0 K C "BadCount") := by
  have sc := sc_i_BadCount
  refine F.ok sc (fun vs H Q E h => ?_) (fun cdv A outer s H vs Q E hr h => ?_)
  · obtain ⟨a, rfl, _⟩ := h
    rfl
  · obtain ⟨a, rfl, ha, q⟩ := h
    refine ⟨_, (pss_one (ps_expr (pe_clsfn TL FL hr bL pass0 (by rfl) (pa_cons (pv 0) (pa_cons pe_str (pa_cons pe_str pa_nil)))))), ?_⟩
    exact ⟨_, rfl, a, C, _, _, rfl, hC, hw, ha, fun d nd da => q d nd da⟩
abbrev i_TooLong : Stmt := inClass s_TooLong 0
theorem sc_i_TooLong : FnScope ["self", "most"] ["self", "most"] (defScope i_TooLong) := ⟨rfl, rfl, rfl, by decide +kernel, rfl, by decide +kernel, by decide +kernel⟩
theorem ok_i_TooLong {f fL C CL : Addr} {fd fdL : FuncData} {k : Nat} (F : Fun K "__init__" "TooLong.__init__" i_TooLong f fd) (TL : ClsFn K mg "LineError" "__init__" CL fL) (FL : FnOk P w K mg base CX0 k fL fdL ["self", "word", "text"] (spLE K)) (bL : Binds K fdL ["self", "word", "text"] [])
    (hC : OexC K C) (hw : PySem.W.findIn K (.ref C) "word" = some none) (hf : PySem.W.findIn K (.ref C) "most" = some none) : FnOk P w K mg base CX0 (k + 1) f fd ["self", "most"] (spIni K C "TooLong" "most") := by
  have sc := sc_i_TooLong
  refine F.ok sc (fun vs H Q E h => ?_) (fun cdv A outer s H vs Q E hr h => ?_)
  · obtain ⟨a, i, rfl, _⟩ := h
    rfl
  · obtain ⟨a, i, rfl, hi, ha, q⟩ := h
    refine ⟨_, (pss_cons (ps_expr (pe_clsfn TL FL hr bL pass0 (by rfl) (pa_cons (pv 0) (pa_cons pe_str (pa_cons (pe_joined (.cons pe_str (.cons (pe_fmt (pv 1)) .nil))) pa_nil))))) (pss_one (ps_ost (pv 0) (pv 1)))), ?_⟩
    refine ⟨_, rfl, _, rfl, (by decide +kernel), _, rfl, .inr ⟨i, rfl, by omega, _, rfl, txt_fits (by decide +kernel) hi, ?_⟩⟩
    refine ⟨a, C, _, _, rfl, hC, hw, ha, fun d nd da => ?_⟩
    refine ⟨_, rfl, _, rfl, a, C, rfl, hC, hf, .inr ⟨d, _, upd_same, ?_, by show 1 ≤ 900; decide, q d nd da⟩⟩
    rw [upd_ne da, upd_same]
theorem txt_fits3 {z t : Str} {i : Int} (hz : z.length ≤ 1000) (ht : t.length ≤ 1000) (hi : i.natAbs.log2 < 1000) : (z ++ Str.ofString (toString i) ++ t).length ≤ sizeLine := by
  have e := PySem.int_text_length_le (k := 1000) (a := i) (by decide) hi
  rw [PySem.Str.length_append, PySem.Str.length_append, PySem.ofString_length, PySem.sizeLine_eq]
  omega
abbrev i_Full : Stmt := inClass s_Full 0
theorem sc_i_Full : FnScope ["self", "most"] ["self", "most"] (defScope i_Full) := ⟨rfl, rfl, rfl, by decide +kernel, rfl, by decide +kernel, by decide +kernel⟩
theorem ok_i_Full {f fL C CL : Addr} {fd fdL : FuncData} {k : Nat} (F : Fun K "__init__" "Full.__init__" i_Full f fd) (TL : ClsFn K mg "LineError" "__init__" CL fL) (FL : FnOk P w K mg base CX0 k fL fdL ["self", "word", "text"] (spLE K)) (bL : Binds K fdL ["self", "word", "text"] [])
    (hC : OexC K C) (hw : PySem.W.findIn K (.ref C) "word" = some none) (hf : PySem.W.findIn K (.ref C) "most" = some none) : FnOk P w K mg base CX0 (k + 1) f fd ["self", "most"] (spIni K C "Full" "most") := by
  have sc := sc_i_Full
  refine F.ok sc (fun vs H Q E h => ?_) (fun cdv A outer s H vs Q E hr h => ?_)
  · obtain ⟨a, i, rfl, _⟩ := h
    rfl
  · obtain ⟨a, i, rfl, hi, ha, q⟩ := h
    refine ⟨_, (pss_cons (ps_expr (pe_clsfn TL FL hr bL pass0 (by rfl) (pa_cons (pv 0) (pa_cons pe_str (pa_cons (pe_joined (.cons (pe_fmt (pv 1)) (.cons pe_str .nil))) pa_nil))))) (pss_one (ps_ost (pv 0) (pv 1)))), ?_⟩
    refine ⟨_, rfl, _, rfl, .inr ⟨i, rfl, by omega, _, rfl, txt_fits (by decide +kernel) hi, _, rfl, txt_fits3 (by decide +kernel) (by decide +kernel) hi, ?_⟩⟩
    refine ⟨a, C, _, _, rfl, hC, hw, ha, fun d nd da => ?_⟩
    refine ⟨_, rfl, _, rfl, a, C, rfl, hC, hf, .inr ⟨d, _, upd_same, ?_, by show 1 ≤ 900; decide, q d nd da⟩⟩
    rw [upd_ne da, upd_same]
/-! ### bytes -/
def isY (z : Int) : Prop := 0 ≤ z ∧ z < 256
def Bytes (ns : List Int) : Prop := ∀ z ∈ ns, isY z
def bb (ns : List Int) : List Int := (ns.map (wr 8)).flatten
theorem bb_cons (n : Int) (r : List Int) : bb (n :: r) = wr 8 n ++ bb r := rfl
theorem bb_app (a c : List Int) : bb (a ++ c) = bb a ++ bb c := by
  unfold bb
  rw [List.map_append, List.flatten_append]
theorem bb_len : ∀ ns : List Int, (bb ns).length = 8 * ns.length
  | [] => rfl
  | n :: r => by
    rw [bb_cons, List.length_append, wr_len, bb_len r, List.length_cons]
    omega
theorem bb_bits : ∀ ns : List Int, Bits (bb ns)
  | [] => bits_nil
  | n :: r => by
    rw [bb_cons]
    exact bits_app (wr_bits 8 n) (bb_bits r)
/-! ### numbers in bits -/
def bn (bs : List Int) : Int := bs.foldl (fun n b => 2 * n + b) 0
theorem bn_more {bs : List Int} {i : Nat} {b : Int} (h : bs[i]? = some b) : bn (bs.take (i + 1)) = 2 * bn (bs.take i) + b := by
  unfold bn
  rw [take_more h, List.foldl_append]
  rfl
theorem bn_acc (n : Nat) : ∀ (i : Nat) (c : Int), (wr i (n : Int)).foldl (fun n b => 2 * n + b) c = c * 2 ^ i + ((n % 2 ^ i : Nat) : Int)
  | 0, c => by
    show c = c * 1 + ((n % 1 : Nat) : Int)
    rw [Nat.mod_one]
    omega
  | i + 1, c => by
    show (wr i (n : Int)).foldl _ (2 * c + ((n : Int) / 2 ^ i) % 2) = _
    rw [bn_acc n i]
    have e : ((n : Int) / 2 ^ i) % 2 = ((n / 2 ^ i % 2 : Nat) : Int) := by
      rw [Int.natCast_emod, Int.natCast_ediv, Int.natCast_pow]
      rfl
    rw [e, Nat.mod_pow_succ, Int.natCast_add, Int.natCast_mul, Int.natCast_pow, Int.pow_succ, Int.add_mul]
    have e2 : (2 * c) * 2 ^ i = c * (2 ^ i * 2) := by
      rw [Int.mul_comm 2 c, Int.mul_assoc, Int.mul_comm 2 (2 ^ i)]
    rw [e2]
    have e3 : ((n / 2 ^ i % 2 : Nat) : Int) * 2 ^ i = (2 : Int) ^ i * ((n / 2 ^ i % 2 : Nat) : Int) := Int.mul_comm _ _
    show _ + ((n / 2 ^ i % 2 : Nat) : Int) * 2 ^ i + ((n % 2 ^ i : Nat) : Int) = _ + (((n % 2 ^ i : Nat) : Int) + (2 : Int) ^ i * ((n / 2 ^ i % 2 : Nat) : Int))
    rw [e3]
    omega
theorem bn_wr {n : Int} {i : Nat} (h0 : 0 ≤ n) (h1 : n < 2 ^ i) : bn (wr i n) = n := by
  obtain ⟨m, rfl⟩ : ∃ m : Nat, n = (m : Int) := ⟨n.toNat, by omega⟩
  unfold bn
  rw [bn_acc, Nat.mod_eq_of_lt (by exact_mod_cast h1)]
  omega
theorem pow64 {k : Nat} (h : k ≤ 64) : (1 : Int) ≤ 2 ^ k ∧ (2 : Int) ^ k ≤ 18446744073709551616 := by
  have h1 : (2 : Nat) ^ k ≤ 18446744073709551616 := Nat.le_trans (Nat.pow_le_pow_right (by decide) h) (by decide)
  have h2 : 1 ≤ (2 : Nat) ^ k := Nat.one_le_two_pow
  have e : ((2 ^ k : Nat) : Int) = (2 : Int) ^ k := Int.natCast_pow 2 k
  rw [← e]
  generalize 2 ^ k = x at h1 h2 ⊢
  omega
theorem lt_of_div {n : Int} {k : Nat} (h : n / 2 ^ k = 0) : n < 2 ^ k := by
  have h1 := Int.mul_ediv_add_emod n (2 ^ k)
  rw [h, Int.mul_zero, Int.zero_add] at h1
  have := Int.emod_lt_of_pos n (b := 2 ^ k) (Int.pow_pos (by decide))
  omega
theorem cut_mid (xs : List V) (i j : Nat) (h : i ≤ j) : cutV xs (some (i : Int)) (some (j : Int)) = (xs.drop i).take (j - i) := by
  unfold cutV
  rw [HT.sIx_nat, HT.sIx_nat]
  by_cases h1 : i ≤ xs.length
  · rw [Nat.min_eq_left h1]
    by_cases h2 : j ≤ xs.length
    · rw [Nat.min_eq_left h2]
    · rw [Nat.min_eq_right (by omega), List.take_of_length_le (by rw [List.length_drop]; exact Nat.le_refl _), List.take_of_length_le (by rw [List.length_drop]; omega)]
  · rw [Nat.min_eq_right (show xs.length ≤ i by omega), Nat.min_eq_right (show xs.length ≤ j by omega), List.drop_of_length_le (Nat.le_refl _), List.drop_of_length_le (show xs.length ≤ i by omega), List.take_nil, List.take_nil]
/-! ### books: the mathematics -/
abbrev Wds := List (List Int)
def bkBegun (ws : Wds) : Wds := if ws.length < 44 then ws else []
def bkLearn (ws : Wds) (a u : List Int) : Wds := if a ≠ [] ∧ ws.length < 44 ∧ a ++ u.take 1 ∉ ws then ws ++ [a ++ u.take 1] else ws
/-- the number of the longest word with which r begins, among the first so many, and how long it is -/
def bkBest (r : List Int) (ws : Wds) : Nat → Int × Nat
  | 0 => (r.headD 0, 1)
  | i + 1 => match ws[i]? with
    | some u => if (bkBest r ws i).2 < u.length ∧ r.take u.length = u then (256 + (i : Int), u.length) else bkBest r ws i
    | none => bkBest r ws i
def bkCode (r : List Int) (ws : Wds) : Int := (bkBest r ws ws.length).1
def bkSize (r : List Int) (ws : Wds) : Nat := (bkBest r ws ws.length).2
structure BkIs (r : List Int) (ws : Wds) (i : Nat) (c : Int) (n : Nat) : Prop where
  lo : 1 ≤ n
  hi : n ≤ r.length
  way : (n = 1 ∧ c = r.headD 0) ∨ (1 < n ∧ ∃ j : Nat, j < i ∧ ws[j]? = some (r.take n) ∧ c = 256 + (j : Int) ∧ ∀ k, k < j → ws[k]? ≠ some (r.take n))
  top : ∀ j u, j < i → ws[j]? = some u → r.take u.length = u → u.length ≤ n
theorem bkBest_is {r : List Int} (hr : r ≠ []) (ws : Wds) : ∀ i : Nat, BkIs r ws i (bkBest r ws i).1 (bkBest r ws i).2
  | 0 => ⟨Nat.le_refl _, (by show 1 ≤ r.length; exact List.length_pos_iff.mpr hr), .inl ⟨rfl, rfl⟩, fun j u h => absurd h (Nat.not_lt_zero _)⟩
  | i + 1 => by
    obtain ⟨lo, hi, way, top⟩ := bkBest_is hr ws i
    have more : ∀ {c : Int} {n : Nat}, ((n = 1 ∧ c = r.headD 0) ∨ (1 < n ∧ ∃ j : Nat, j < i ∧ ws[j]? = some (r.take n) ∧ c = 256 + (j : Int) ∧ ∀ k, k < j → ws[k]? ≠ some (r.take n))) → (n = 1 ∧ c = r.headD 0) ∨ (1 < n ∧ ∃ j : Nat, j < i + 1 ∧ ws[j]? = some (r.take n) ∧ c = 256 + (j : Int) ∧ ∀ k, k < j → ws[k]? ≠ some (r.take n)) := by
      rintro c n (h | ⟨h, j, hj, h2⟩)
      · exact .inl h
      · exact .inr ⟨h, j, by omega, h2⟩
    show BkIs r ws (i + 1) (match ws[i]? with | some u => if (bkBest r ws i).2 < u.length ∧ r.take u.length = u then (256 + (i : Int), u.length) else bkBest r ws i | none => bkBest r ws i).1 (match ws[i]? with | some u => if (bkBest r ws i).2 < u.length ∧ r.take u.length = u then (256 + (i : Int), u.length) else bkBest r ws i | none => bkBest r ws i).2
    cases e : ws[i]? with
    | none =>
      refine ⟨lo, hi, more way, fun j u hj hu ht => ?_⟩
      by_cases z : j = i
      · rw [z, e] at hu
        cases hu
      · exact top j u (by omega) hu ht
    | some u =>
      by_cases c : (bkBest r ws i).2 < u.length ∧ r.take u.length = u
      · simp only [if_pos c]
        have hul : u.length ≤ r.length := by
          have := congrArg List.length c.2
          rw [List.length_take] at this
          omega
        refine ⟨by show 1 ≤ u.length; omega, hul, .inr ⟨by show 1 < u.length; omega, i, by omega, ?_, rfl, fun k hk hz => ?_⟩, fun j v hj hv ht => ?_⟩
        · rw [e]
          show some u = some (r.take u.length)
          rw [c.2]
        · have hz : ws[k]? = some (r.take u.length) := hz
          rw [c.2] at hz
          have := top k u hk hz c.2
          omega
        · show v.length ≤ u.length
          by_cases z : j = i
          · rw [z, e] at hv
            cases hv
            exact Nat.le_refl _
          · have := top j v (by omega) hv ht
            omega
      · simp only [if_neg c]
        refine ⟨lo, hi, more way, fun j v hj hv ht => ?_⟩
        by_cases z : j = i
        · rw [z, e] at hv
          cases hv
          exact Nat.le_of_not_lt (fun h => c ⟨h, ht⟩)
        · exact top j v (by omega) hv ht
theorem bk_is {r : List Int} (hr : r ≠ []) (ws : Wds) : BkIs r ws ws.length (bkCode r ws) (bkSize r ws) := bkBest_is hr ws ws.length
theorem bkSize_pos (r : List Int) (ws : Wds) : 1 ≤ bkSize r ws := by
  have : ∀ i, 1 ≤ (bkBest r ws i).2 := by
    intro i
    induction i with
    | zero => exact Nat.le_refl _
    | succ i ih =>
      show 1 ≤ (match ws[i]? with | some u => if (bkBest r ws i).2 < u.length ∧ r.take u.length = u then (256 + (i : Int), u.length) else bkBest r ws i | none => bkBest r ws i).2
      cases ws[i]? with
      | none => exact ih
      | some u =>
        show 1 ≤ (if (bkBest r ws i).2 < u.length ∧ r.take u.length = u then (256 + (i : Int), u.length) else bkBest r ws i).2
        split
        · rename_i c
          show 1 ≤ u.length
          omega
        · exact ih
  exact this _
theorem drop_lt {r : List Int} {n : Nat} (hr : r ≠ []) (hn : 1 ≤ n) : (r.drop n).length < r.length := by
  have := List.length_pos_iff.mpr hr
  rw [List.length_drop]
  omega
/-- the numbers of a row, and the words behind -/
def bkGo (ws : Wds) (a r : List Int) : List Int × Wds :=
  if h : r = [] then ([], ws)
  else (bkCode r ws :: (bkGo (bkLearn ws a (r.take (bkSize r ws))) (r.take (bkSize r ws)) (r.drop (bkSize r ws))).1, (bkGo (bkLearn ws a (r.take (bkSize r ws))) (r.take (bkSize r ws)) (r.drop (bkSize r ws))).2)
termination_by r.length
decreasing_by all_goals exact drop_lt h (bkSize_pos r ws)
theorem bkGo_nil (ws : Wds) (a : List Int) : bkGo ws a [] = ([], ws) := by
  rw [bkGo]
  rfl
theorem bkGo_cons {ws : Wds} {a r : List Int} (h : r ≠ []) : bkGo ws a r = (bkCode r ws :: (bkGo (bkLearn ws a (r.take (bkSize r ws))) (r.take (bkSize r ws)) (r.drop (bkSize r ws))).1, (bkGo (bkLearn ws a (r.take (bkSize r ws))) (r.take (bkSize r ws)) (r.drop (bkSize r ws))).2) := by
  rw [bkGo, dif_neg h]
def bkShort (ws : Wds) (row : List Int) : List Int × Wds := bkGo (bkBegun ws) [] row
def bkWord (ws : Wds) (c : Int) : List Int := if c < 256 then [c] else ws.getD (c - 256).toNat []
/-- the row of numbers, or where it stops -/
def bkLen (ws : Wds) (a f : List Int) (i : Nat) : List Int → Sum Nat (List Int × Wds)
  | [] => .inr (f, ws)
  | c :: cs => if c < 0 ∨ 256 + (ws.length : Int) ≤ c then .inl i
    else if 60 < f.length + (bkWord ws c).length then .inl i else bkLen (bkLearn ws a (bkWord ws c)) (bkWord ws c) (f ++ bkWord ws c) (i + 1) cs
def bkLong (ws : Wds) (cs : List Int) : Sum Nat (List Int × Wds) := bkLen (bkBegun ws) [] [] 0 cs
theorem bk_code_word {ws : Wds} {r : List Int} (h : r ≠ []) (hb : ∀ z ∈ r, 0 ≤ z ∧ z < 256) : (0 ≤ bkCode r ws ∧ bkCode r ws < 256 + (ws.length : Int)) ∧ bkWord ws (bkCode r ws) = r.take (bkSize r ws) := by
  obtain ⟨lo, hi, way, top⟩ := bk_is h ws
  rcases way with ⟨e1, e2⟩ | ⟨h1, j, hj, hw, e2, _⟩
  · have hz := hb (r.headD 0) (by cases r with | nil => exact absurd rfl h | cons x t => exact .head _)
    rw [e2, e1]
    refine ⟨⟨hz.1, by omega⟩, ?_⟩
    unfold bkWord
    rw [if_pos hz.2]
    cases r with
    | nil => exact absurd rfl h
    | cons x t => rfl
  · rw [e2]
    refine ⟨⟨by omega, by omega⟩, ?_⟩
    unfold bkWord
    rw [if_neg (by omega), show (256 + (j : Int) - 256).toNat = j by omega, List.getD_eq_getElem?_getD, hw]
    rfl
theorem bkLen_go : ∀ (n : Nat) (r : List Int) (ws : Wds) (a f : List Int) (i : Nat), r.length ≤ n → (∀ z ∈ r, 0 ≤ z ∧ z < 256) → f.length + r.length ≤ 60 → bkLen ws a f i (bkGo ws a r).1 = .inr (f ++ r, (bkGo ws a r).2)
  | n, [], ws, a, f, i, _, _, _ => by
    rw [bkGo_nil]
    show Sum.inr (f, ws) = _
    rw [List.append_nil]
  | 0, x :: r, _, _, _, _, h, _, _ => absurd h (by simp)
  | n + 1, x :: r, ws, a, f, i, hl, hb, h60 => by
    have hne : x :: r ≠ [] := by simp
    obtain ⟨hc, hw⟩ := bk_code_word (ws := ws) hne hb
    have hs := bkSize_pos (x :: r) ws
    have hi := (bk_is hne ws).hi
    rw [bkGo_cons hne]
    show (if bkCode (x :: r) ws < 0 ∨ 256 + (ws.length : Int) ≤ bkCode (x :: r) ws then _ else _) = _
    rw [if_neg (by omega), hw]
    rw [if_neg (by rw [List.length_take]; omega)]
    rw [bkLen_go n _ _ _ _ _ (by have := drop_lt hne hs; omega) (fun z hz => hb z (List.mem_of_mem_drop hz)) (by rw [List.length_append, List.length_take, List.length_drop]; omega)]
    rw [List.append_assoc, List.take_append_drop]
theorem bkLong_short {ws : Wds} {row : List Int} (hb : ∀ z ∈ row, 0 ≤ z ∧ z < 256) (hl : row.length ≤ 60) : bkLong ws (bkShort ws row).1 = .inr (row, (bkShort ws row).2) := by
  unfold bkLong bkShort
  have := bkLen_go row.length row (bkBegun ws) [] [] 0 (Nat.le_refl _) hb (by simpa using hl)
  rw [List.nil_append] at this
  exact this
theorem bkGo_len : ∀ (n : Nat) (r : List Int) (ws : Wds) (a : List Int), r.length ≤ n → (bkGo ws a r).1.length ≤ r.length
  | n, [], ws, a, _ => by rw [bkGo_nil]; exact Nat.le_refl _
  | 0, x :: r, _, _, h => absurd h (by simp)
  | n + 1, x :: r, ws, a, hl => by
    have hne : x :: r ≠ [] := by simp
    have hd := drop_lt hne (bkSize_pos (x :: r) ws)
    rw [bkGo_cons hne]
    have := bkGo_len n ((x :: r).drop (bkSize (x :: r) ws)) (bkLearn ws a ((x :: r).take (bkSize (x :: r) ws))) ((x :: r).take (bkSize (x :: r) ws)) (by omega)
    show _ + 1 ≤ _
    omega
theorem bkLearn_room {ws : Wds} {a u : List Int} (h : ws.length ≤ 44) : (bkLearn ws a u).length ≤ 44 := by
  unfold bkLearn
  split
  · rename_i c
    rw [List.length_append]
    show ws.length + 1 ≤ 44
    omega
  · exact h
theorem bkBegun_room (ws : Wds) : (bkBegun ws).length ≤ 44 := by
  unfold bkBegun
  split
  · omega
  · exact Nat.zero_le _
theorem bkGo_room : ∀ (n : Nat) (r : List Int) (ws : Wds) (a : List Int), r.length ≤ n → ws.length ≤ 44 → (bkGo ws a r).2.length ≤ 44
  | n, [], ws, a, _, h => by rw [bkGo_nil]; exact h
  | 0, x :: r, _, _, h, _ => absurd h (by simp)
  | n + 1, x :: r, ws, a, hl, h => by
    have hne : x :: r ≠ [] := by simp
    have hd := drop_lt hne (bkSize_pos (x :: r) ws)
    rw [bkGo_cons hne]
    exact bkGo_room n _ _ _ (by omega) (bkLearn_room h)
theorem bkGo_codes : ∀ (n : Nat) (r : List Int) (ws : Wds) (a : List Int), r.length ≤ n → ws.length ≤ 44 → (∀ z ∈ r, 0 ≤ z ∧ z < 256) → ∀ c ∈ (bkGo ws a r).1, 0 ≤ c ∧ c < 300
  | n, [], ws, a, _, _, _ => by rw [bkGo_nil]; exact fun c hc => absurd hc List.not_mem_nil
  | 0, x :: r, _, _, h, _, _ => absurd h (by simp)
  | n + 1, x :: r, ws, a, hl, h, hb => by
    have hne : x :: r ≠ [] := by simp
    have hd := drop_lt hne (bkSize_pos (x :: r) ws)
    rw [bkGo_cons hne]
    intro c hc
    rcases List.mem_cons.mp hc with rfl | hc
    · have := (bk_code_word (ws := ws) hne hb).1
      omega
    · exact bkGo_codes n _ _ _ (by omega) (bkLearn_room h) (fun z hz => hb z (List.mem_of_mem_drop hz)) c hc
theorem bkShort_room (ws : Wds) (row : List Int) : (bkShort ws row).2.length ≤ 44 := bkGo_room row.length row _ _ (Nat.le_refl _) (bkBegun_room ws)
theorem bkShort_len (ws : Wds) (row : List Int) : (bkShort ws row).1.length ≤ row.length := bkGo_len row.length row _ _ (Nat.le_refl _)
theorem bkShort_codes {ws : Wds} {row : List Int} (hb : ∀ z ∈ row, 0 ≤ z ∧ z < 256) : ∀ c ∈ (bkShort ws row).1, 0 ≤ c ∧ c < 300 := bkGo_codes row.length row _ _ (Nat.le_refl _) (bkBegun_room ws) hb
/-- words are of two bytes and more, at most sixty -/
def Wd (u : List Int) : Prop := 1 ≤ u.length ∧ u.length ≤ 1000
/-! ### a row of unlike bytes fills the book -/
theorem un_odd : ∀ n, n < 60 → 0 < n → ∀ d, d < 128 → (n * (1 + 2 * d)) % 256 ≠ 0 := by decide +kernel
def fullRow (x d : Nat) : List Int := (List.range 60).map fun k : Nat => ((x : Int) + (k : Int) * (1 + 2 * (d : Int))) % 256
theorem fullRow_len (x d : Nat) : (fullRow x d).length = 60 := by
  unfold fullRow
  rw [List.length_map, List.length_range]
theorem fullRow_bytes (x d : Nat) : ∀ z ∈ fullRow x d, 0 ≤ z ∧ z < 256 := by
  intro z hz
  unfold fullRow at hz
  obtain ⟨k, _, rfl⟩ := List.mem_map.mp hz
  omega
theorem fullRow_nodup {x d : Nat} (hd : d < 128) : (fullRow x d).Nodup := by
  unfold fullRow
  rw [List.nodup_iff_pairwise_ne, List.pairwise_map]
  refine List.Pairwise.imp_of_mem ?_ (List.nodup_iff_pairwise_ne.mp List.nodup_range)
  have key : ∀ i j : Nat, i < j → j < 60 → ((x : Int) + (i : Int) * (1 + 2 * (d : Int))) % 256 ≠ ((x : Int) + (j : Int) * (1 + 2 * (d : Int))) % 256 := by
    intro i j hij hj e
    have h := un_odd (j - i) (by omega) (by omega) d hd
    refine h ?_
    obtain ⟨m, rfl⟩ : ∃ m, j = i + m := ⟨j - i, by omega⟩
    rw [Nat.add_sub_cancel_left]
    have e2 : (((i + m : Nat) : Int)) * (1 + 2 * (d : Int)) = (i : Int) * (1 + 2 * (d : Int)) + (m : Int) * (1 + 2 * (d : Int)) := by
      rw [Int.natCast_add, Int.add_mul]
    rw [e2] at e
    have e3 : (((m * (1 + 2 * d) : Nat)) : Int) = (m : Int) * (1 + 2 * (d : Int)) := by
      rw [Int.natCast_mul, Int.natCast_add, Int.natCast_mul]
      rfl
    rw [← e3] at e
    generalize (i : Int) * (1 + 2 * (d : Int)) = y at e
    generalize m * (1 + 2 * d) = w at e ⊢
    omega
  intro i j hi hj hne
  rw [List.mem_range] at hi hj
  rcases Nat.lt_trichotomy i j with h | h | h
  · exact key i j h hj
  · exact absurd h hne
  · exact fun e => key j i h hi e.symm
/-- all of the words' bytes have been before -/
def Past (ws : Wds) (r : List Int) : Prop := ∀ u ∈ ws, u ≠ [] ∧ ∀ z ∈ u, z ∉ r
theorem past_code {ws : Wds} {x : Int} {t : List Int} (h : Past ws (x :: t)) : bkCode (x :: t) ws = x ∧ bkSize (x :: t) ws = 1 := by
  obtain ⟨lo, hi, way, _⟩ := bk_is (r := x :: t) (by simp) ws
  rcases way with ⟨e1, e2⟩ | ⟨h1, j, _, hw, _, _⟩
  · exact ⟨e2, e1⟩
  · exfalso
    have hm := h _ (List.mem_of_getElem? hw)
    refine hm.2 x ?_ (.head _)
    obtain ⟨n, hn⟩ : ∃ n, bkSize (x :: t) ws = n + 1 := ⟨bkSize (x :: t) ws - 1, by omega⟩
    rw [hn, List.take_succ_cons]
    exact .head _
theorem go_nodup : ∀ (r : List Int) (ws : Wds) (y : Int), r.Nodup → Past ws r → y ∉ r → ws.length ≤ 44 → (bkGo ws [y] r).1 = r ∧ (bkGo ws [y] r).2.length = min 44 (ws.length + r.length)
  | [], ws, y, _, _, _, hl => by
    rw [bkGo_nil]
    refine ⟨rfl, ?_⟩
    show ws.length = min 44 (ws.length + 0)
    omega
  | x :: t, ws, y, hn, hp, hy, hl => by
    obtain ⟨ec, es⟩ := past_code hp
    have hn' := List.nodup_cons.mp hn
    have hnew : [y] ++ [x].take 1 ∉ ws := fun hm => (hp _ hm).2 x (by simp) (.head _)
    have hpast : Past (bkLearn ws [y] [x]) t := by
      unfold bkLearn
      split
      · intro u hu
        rcases List.mem_append.mp hu with h | h
        · exact ⟨(hp u h).1, fun z hz hzt => (hp u h).2 z hz (.tail _ hzt)⟩
        · rw [List.mem_singleton.mp h]
          refine ⟨by simp, fun z hz hzt => ?_⟩
          have hz : z ∈ [y, x] := hz
          rcases List.mem_cons.mp hz with rfl | hz
          · exact hy (.tail _ hzt)
          · rw [List.mem_singleton.mp hz] at hzt
            exact hn'.1 hzt
      · exact fun u hu => ⟨(hp u hu).1, fun z hz hzt => (hp u hu).2 z hz (.tail _ hzt)⟩
    have hlen : (bkLearn ws [y] [x]).length = min 44 (ws.length + 1) := by
      unfold bkLearn
      by_cases z : ws.length < 44
      · rw [if_pos ⟨by simp, z, hnew⟩, List.length_append]
        show ws.length + 1 = _
        omega
      · rw [if_neg (fun c => z c.2.1)]
        omega
    obtain ⟨i1, i2⟩ := go_nodup t (bkLearn ws [y] [x]) x hn'.2 hpast hn'.1 (by omega)
    rw [bkGo_cons (by simp), ec, es]
    refine ⟨?_, ?_⟩
    · show x :: (bkGo (bkLearn ws [y] [x]) [x] t).1 = x :: t
      rw [i1]
    · show (bkGo (bkLearn ws [y] [x]) [x] t).2.length = _
      rw [i2, hlen, List.length_cons]
      omega
theorem full_short {x d : Nat} (hd : d < 128) : (bkShort [] (fullRow x d)).1 = fullRow x d ∧ (bkShort [] (fullRow x d)).2.length = 44 := by
  have hn := fullRow_nodup (x := x) hd
  have hl := fullRow_len x d
  unfold bkShort
  have hb : bkBegun [] = [] := rfl
  rw [hb]
  cases h : fullRow x d with
  | nil => rw [h] at hl; cases hl
  | cons y t =>
    rw [h] at hn hl
    have hn' := List.nodup_cons.mp hn
    obtain ⟨ec, es⟩ := past_code (ws := []) (x := y) (t := t) (fun u hu => absurd hu List.not_mem_nil)
    obtain ⟨i1, i2⟩ := go_nodup t [] y hn'.2 (fun u hu => absurd hu List.not_mem_nil) hn'.1 (Nat.zero_le _)
    have e0 : bkLearn [] [] [y] = [] := by
      unfold bkLearn
      rw [if_neg (fun c => c.1 rfl)]
    rw [bkGo_cons (by simp), ec, es]
    have e1 : bkLearn [] [] ((y :: t).take 1) = [] := e0
    rw [e1]
    refine ⟨?_, ?_⟩
    · show y :: (bkGo [] [y] t).1 = y :: t
      rw [i1]
    · show (bkGo [] [y] t).2.length = 44
      rw [i2]
      have : t.length + 1 = 60 := hl
      show min 44 (0 + t.length) = 44
      omega
/-! ### books as objects -/
abbrev WP := Addr × List Int
abbrev rfW (p : WP) : V := .ref p.1
abbrev twW (p : WP) : Addr × List V := (p.1, p.2.map V.int)
def wsOf (P : List WP) : Wds := P.map (·.2)
abbrev refsW (P : List WP) : List V := P.map rfW
abbrev knW (P : List WP) : List (Addr × List V) := P.map twW
theorem wsOf_len (P : List WP) : (wsOf P).length = P.length := List.length_map _
theorem wsOf_app (P Q : List WP) : wsOf (P ++ Q) = wsOf P ++ wsOf Q := List.map_append
theorem wsOf_at {P : List WP} {i : Nat} {p : WP} (h : P[i]? = some p) : (wsOf P)[i]? = some p.2 := by
  unfold wsOf
  rw [List.getElem?_map, h]
  rfl
theorem refsW_at {P : List WP} {i : Nat} {x : V} (h : (refsW P)[i]? = some x) : ∃ p, P[i]? = some p ∧ x = .ref p.1 := by
  rw [List.getElem?_map] at h
  cases e : P[i]? with
  | none => rw [e] at h; cases h
  | some p => rw [e] at h; exact ⟨p, rfl, (Option.some.inj h).symm⟩
theorem tf_at {K : PySem.W.Frag} {P : List WP} {H : Hp} {i : Nat} {p : WP} (t : TF K (knW P) H) (h : P[i]? = some p) : SqT K H p.1 (p.2.map V.int) := t (twW p) (List.mem_map.mpr ⟨p, List.mem_of_getElem? h, rfl⟩)
theorem tf_nil {K : PySem.W.Frag} {H : Hp} : TF K (knW []) H := fun p hp => absurd hp List.not_mem_nil
theorem tf_snoc {K : PySem.W.Frag} {P : List WP} {H : Hp} {t : Addr} {u : List Int} (h : TF K (knW P) H) (ht : SqT K H t (u.map V.int)) : TF K (knW (P ++ [(t, u)])) H := fun p hp => by
  have hp : p ∈ (P ++ [(t, u)]).map twW := hp
  rw [List.map_append] at hp
  rcases List.mem_append.mp hp with q | q
  · exact h p q
  · rw [List.mem_singleton.mp q]
    exact ht
structure BkC (K : PySem.W.Frag) (C : Addr) : Prop where
  cls : Cls K C
  nw : NoAttr K C "words"
abbrev bkF (l : Addr) : List (Str × V) := [(("words" : Str), .ref l)]
structure Bk (C r l : Addr) (P : List WP) (H : Hp) : Prop where
  ins : ∃ dx, H r = some (.ins C dx (bkF l))
  mem : H l = some (.lst (refsW P))
def tBk (C r l : Addr) (P : List WP) : Th := ⟨[r, l], Bk C r l P, fun H H' k h => by
  obtain ⟨⟨dx, h1⟩, h2⟩ := h
  exact ⟨⟨dx, k _ (.head _) _ h1⟩, k _ (.tail _ (.head _)) _ h2⟩, fun H h a ha => by
  obtain ⟨⟨dx, h1⟩, h2⟩ := h
  rcases List.mem_cons.mp ha with rfl | ha
  · exact ⟨_, h1, trivial⟩
  · rw [List.mem_singleton.mp ha]
    exact ⟨_, h2, trivial⟩⟩
instance (C r l : Addr) (P : List WP) : NT (tBk C r l P) := ⟨fun H h a ha o e => by
  obtain ⟨⟨dx, h1⟩, h2⟩ := h
  rcases List.mem_cons.mp ha with rfl | ha
  · rw [h1] at e
    cases e
    trivial
  · rw [List.mem_singleton.mp ha, h2] at e
    cases e
    trivial⟩
theorem Bk.ne {C r l : Addr} {P : List WP} {H : Hp} (h : Bk C r l P H) : l ≠ r := fun z => by
  obtain ⟨⟨dx, h1⟩, h2⟩ := h
  rw [z, h1] at h2
  cases h2
/-- all words are short -/
def W61 (ws : Wds) : Prop := ws.length ≤ 44 ∧ ∀ u ∈ ws, u.length ≤ 61
theorem w61_begun {ws : Wds} (h : W61 ws) : W61 (bkBegun ws) := by
  unfold bkBegun
  split
  · exact h
  · exact ⟨Nat.zero_le _, fun u hu => absurd hu List.not_mem_nil⟩
theorem w61_learn {ws : Wds} {a u : List Int} (h : W61 ws) (ha : a.length ≤ 60) : W61 (bkLearn ws a u) := by
  refine ⟨bkLearn_room h.1, ?_⟩
  unfold bkLearn
  split
  · intro v hv
    rcases List.mem_append.mp hv with z | z
    · exact h.2 v z
    · rw [List.mem_singleton.mp z, List.length_append, List.length_take]
      omega
  · exact h.2
theorem w61_nil : W61 [] := ⟨Nat.zero_le _, fun u hu => absurd hu List.not_mem_nil⟩
theorem w61_go : ∀ (n : Nat) (r : List Int) (ws : Wds) (a : List Int), r.length ≤ n → r.length ≤ 60 → a.length ≤ 60 → W61 ws → W61 (bkGo ws a r).2
  | n, [], ws, a, _, _, _, h => by rw [bkGo_nil]; exact h
  | 0, x :: r, _, _, h, _, _, _ => absurd h (by simp)
  | n + 1, x :: r, ws, a, hl, h60, ha, h => by
    have hne : x :: r ≠ [] := by simp
    have hd := drop_lt hne (bkSize_pos (x :: r) ws)
    rw [bkGo_cons hne]
    exact w61_go n _ _ _ (by omega) (by omega) (by rw [List.length_take]; omega) (w61_learn h ha)
theorem w61_short {ws : Wds} {row : List Int} (h : W61 ws) (hl : row.length ≤ 60) : W61 (bkShort ws row).2 := w61_go row.length row _ _ (Nat.le_refl _) hl (Nat.zero_le _) (w61_begun h)
theorem w61_len : ∀ (cs : List Int) (ws : Wds) (a f : List Int) (i : Nat) (row : List Int) (ws' : Wds), a.length ≤ 60 → W61 ws → bkLen ws a f i cs = .inr (row, ws') → W61 ws'
  | [], ws, a, f, i, row, ws', _, h, e => by
    have e : Sum.inr (f, ws) = (Sum.inr (row, ws') : Sum Nat (List Int × Wds)) := e
    cases e
    exact h
  | c :: cs, ws, a, f, i, row, ws', ha, h, e => by
    unfold bkLen at e
    split at e
    · cases e
    · split at e
      · cases e
      · rename_i h1 h2
        exact w61_len cs _ _ _ _ _ _ (by omega) (w61_learn h ha) e
def spRoom (K : PySem.W.Frag) : Sp := fun vs H Q _ => ∃ (l : Addr) (xs : List V), vs = [.ref l] ∧ SqL K H l xs ∧ Q (.bl (decide (xs.length < 44))) H
def spWAB (K : PySem.W.Frag) : Sp := fun vs H Q _ => ∃ (l : Addr) (xs : List V), vs = [.ref l] ∧ SqL K H l xs ∧ ∀ p, H p = none → Q (.ref p) (upd H p (.lst (if xs.length < 44 then xs else [])))
def spLC (K : PySem.W.Frag) : Sp := fun vs H Q _ => ∃ (l a : Addr) (i : Nat) (P : List WP) (ns : List Int), vs = [.ref l, .ref a, .int (i : Int)] ∧ SqL K H l (refsW P) ∧ TF K (knW P) H ∧ SqL K H a (ns.map V.int) ∧ i < ns.length ∧ ∀ H', Same H H' → Q (.int (bkCode (ns.drop i) (wsOf P))) H'
def spWO (K : PySem.W.Frag) : Sp := fun vs H Q _ => ∃ (l : Addr) (c : Int) (P : List WP), vs = [.ref l, .int c] ∧ SqL K H l (refsW P) ∧ TF K (knW P) H ∧ 0 ≤ c ∧ c < 256 + (P.length : Int) ∧ ∀ (H' : Hp) (t : Addr), Same H H' → SqT K H' t ((bkWord (wsOf P) c).map V.int) → Q (.ref t) H'
def spLearn (K : PySem.W.Frag) : Sp := fun vs H Q _ => ∃ (l ta tu : Addr) (P : List WP) (a u : List Int), vs = [.ref l, .ref ta, .ref tu] ∧ H l = some (.lst (refsW P)) ∧ TF K (knW P) H ∧ SqT K H ta (a.map V.int) ∧ SqT K H tu (u.map V.int) ∧ a.length ≤ 1000 ∧ P.length ≤ 1000 ∧
  ∀ (H' : Hp) (P' : List WP), MvF [l] H H' → H' l = some (.lst (refsW P')) → TF K (knW P') H' → wsOf P' = bkLearn (wsOf P) a u → Q .non H'
def spBkI (C : Addr) : Sp := fun vs H Q _ => ∃ (r dx : Addr), vs = [.ref r] ∧ H r = some (.ins C dx []) ∧ ∀ (H' : Hp) (l : Addr), MvF [r] H H' → H l = none → Bk C r l [] H' → Q .non H'
def spShort (K : PySem.W.Frag) (C cY cL : Addr) : Sp := fun vs H Q E => ∃ (r l a : Addr) (P : List WP) (ns : List Int), vs = [.ref r, .ref a] ∧ Bk C r l P H ∧ TF K (knW P) H ∧ W61 (wsOf P) ∧ SqL K H a (ns.map V.int) ∧ ns.length ≤ 10000 ∧
  (Bytes ns → ns.length ≤ 60 → ∀ (H' : Hp) (l' o : Addr) (P' : List WP), MvF [r] H H' → H l' = none → H o = none → o ≠ l' → Bk C r l' P' H' → TF K (knW P') H' → wsOf P' = (bkShort (wsOf P) ns).2 → H' o = some (.lst ((bkShort (wsOf P) ns).1.map V.int)) → Q (.ref o) H') ∧
  (Bytes ns → 60 < ns.length → ∀ H' d, Same H H' → H d = none → H' d = some (.xd [(("most" : Str), .int 60), (("word" : Str), .str "TooLong")]) → E (.ref cL) (some d) H') ∧
  (∀ (i : Nat) (z : Int), ns[i]? = some z → ¬ isY z → Bytes (ns.take i) → ∀ H' d, Same H H' → H d = none → H' d = some (.xd [(("at" : Str), .int (i : Int)), (("word" : Str), .str "BadByte")]) → E (.ref cY) (some d) H')
def spLong (K : PySem.W.Frag) (C cC : Addr) : Sp := fun vs H Q E => ∃ (r l a : Addr) (P : List WP) (cs : List Int), vs = [.ref r, .ref a] ∧ Bk C r l P H ∧ TF K (knW P) H ∧ W61 (wsOf P) ∧ SqL K H a (cs.map V.int) ∧ cs.length ≤ 10000 ∧
  (∀ row ws', bkLong (wsOf P) cs = .inr (row, ws') → ∀ (H' : Hp) (l' o : Addr) (P' : List WP), MvF [r] H H' → H l' = none → H o = none → o ≠ l' → Bk C r l' P' H' → TF K (knW P') H' → wsOf P' = ws' → H' o = some (.lst (row.map V.int)) → Q (.ref o) H') ∧
  (∀ i : Nat, bkLong (wsOf P) cs = .inl i → ∀ H' d, Same H H' → H d = none → H' d = some (.xd [(("at" : Str), .int (i : Int)), (("word" : Str), .str "BadCode")]) → E (.ref cC) (some d) H')
def spBkLen (C : Addr) : Sp := fun vs H Q _ => ∃ (r l : Addr) (P : List WP), vs = [.ref r] ∧ Bk C r l P H ∧ Q (.int (P.length : Int)) H
def reprBk (n : Nat) : Str := ("Book(" : Str) ++ (toString (n : Int) : String) ++ (" learnt)" : Str)
def spBkRepr (C : Addr) : Sp := fun vs H Q _ => ∃ (r l : Addr) (P : List WP), vs = [.ref r] ∧ Bk C r l P H ∧ P.length ≤ 1000 ∧ Q (.str (reprBk P.length)) H
def spLearnt (C : Addr) : Sp := fun vs H Q _ => ∃ (r l : Addr) (P : List WP), vs = [.ref r] ∧ Bk C r l P H ∧ ∀ p, H p = none → Q (.ref p) (upd H p (.lst (refsW P)))
/-- words as data -/
def dW (ws : Wds) : PyData := .list (ws.map fun u => .tuple (u.map .int))
theorem dpa_words {K : PySem.W.Frag} {H : Hp} : ∀ {P : List WP}, TF K (knW P) H → DpAll K H (refsW P) ((wsOf P).map fun u => PyData.tuple (u.map .int))
  | [], _ => .nil
  | p :: P, h => .cons (.tup (h (twW p) (.head _)) (dpa_ints p.2)) (dpa_words (P := P) (fun q hq => h q (.tail _ hq)))
theorem dp_words {K : PySem.W.Frag} {H : Hp} {l : Addr} {P : List WP} (h : SqL K H l (refsW P)) (t : TF K (knW P) H) : Dp K H (.ref l) (dW (wsOf P)) := .lst h (dpa_words t)
theorem depth_words : ∀ ws : Wds, PyData.depthAll (ws.map fun u => PyData.tuple (u.map .int)) ≤ 1
  | [] => Nat.zero_le _
  | u :: ws => by
    show max (PyData.depthAll (u.map PyData.int) + 1) (PyData.depthAll (ws.map fun u => PyData.tuple (u.map .int))) ≤ 1
    rw [depth_ints]
    exact Nat.max_le.mpr ⟨Nat.le_refl _, depth_words ws⟩
theorem canLay_words : ∀ ws : Wds, PyData.canLayAll0 (ws.map fun u => PyData.tuple (u.map .int)) = true
  | [] => rfl
  | u :: ws => by
    show (PyData.canLayAll0 (u.map PyData.int) && PyData.canLayAll0 (ws.map fun u => PyData.tuple (u.map .int))) = true
    rw [canLay_ints, canLay_words ws]
    rfl
theorem shaped_words (ws : Wds) : SeqAt.shaped (dW ws) = true := by
  unfold SeqAt.shaped
  rw [Bool.and_eq_true]
  refine ⟨canLay_words ws, decide_eq_true ?_⟩
  show PyData.depthAll (ws.map fun u => PyData.tuple (u.map .int)) + 1 ≤ 64
  have := depth_words ws
  omega
theorem shaped_tupI (u : List Int) : SeqAt.shaped (.tuple (u.map .int)) = true := by
  unfold SeqAt.shaped
  rw [Bool.and_eq_true]
  refine ⟨canLay_ints u, decide_eq_true ?_⟩
  show PyData.depthAll (u.map PyData.int) + 1 ≤ 64
  rw [depth_ints]
  decide
theorem eqv_tupI (u v : List Int) : PyData.eqv (.tuple (u.map .int)) (.tuple (v.map .int)) = decide (u = v) := eqv_ints u v
theorem any_words (g : List Int) : ∀ ws : Wds, ((ws.map fun u => PyData.tuple (u.map .int)).any fun z => PyData.eqv z (.tuple (g.map .int))) = decide (g ∈ ws)
  | [] => rfl
  | u :: ws => by
    show (PyData.eqv (.tuple (u.map .int)) (.tuple (g.map .int)) || (ws.map fun u => PyData.tuple (u.map .int)).any fun z => PyData.eqv z (.tuple (g.map .int))) = _
    rw [any_words g ws, eqv_tupI]
    by_cases z : u = g
    · subst z
      simp
    · rw [decide_eq_false z, Bool.false_or]
      exact decide_eq_decide.mpr ⟨fun h => .tail _ h, fun h => (List.mem_cons.mp h).elim (fun e => absurd e.symm z) id⟩
theorem eqv_words : ∀ ws vs : Wds, PyData.eqv (dW ws) (dW vs) = decide (ws = vs) := by
  have : ∀ ws vs : Wds, PyData.eqvAll (ws.map fun u => PyData.tuple (u.map .int)) (vs.map fun u => PyData.tuple (u.map .int)) = decide (ws = vs) := by
    intro ws
    induction ws with
    | nil => intro vs; cases vs <;> rfl
    | cons u ws ih =>
      intro vs
      cases vs with
      | nil => rfl
      | cons v vs =>
        show (PyData.eqv (.tuple (u.map .int)) (.tuple (v.map .int)) && PyData.eqvAll (ws.map fun u => PyData.tuple (u.map .int)) (vs.map fun u => PyData.tuple (u.map .int))) = _
        rw [ih vs, eqv_tupI, ← Bool.decide_and]
        exact decide_eq_decide.mpr ⟨fun h => by rw [h.1, h.2], fun h => List.cons.inj h⟩
  exact this
theorem dn_tupI {u : List Int} (h : u.length ≤ 100000) (n : Nat) : Dn (n + 2) (.tuple (u.map .int)) := .inr (.inr (.inr (.inr ⟨_, .inr rfl, by rw [List.length_map]; exact h, fun e he => by
  obtain ⟨z, _, rfl⟩ := List.mem_map.mp he
  exact .inr (.inl ⟨z, rfl⟩)⟩)))
theorem dn_words {ws : Wds} (h : W61 ws) (n : Nat) : Dn (n + 3) (dW ws) := .inr (.inr (.inr (.inr ⟨_, .inl rfl, by rw [List.length_map]; have := h.1; omega, fun e he => by
  obtain ⟨u, hu, rfl⟩ := List.mem_map.mp he
  exact dn_tupI (by have := h.2 u hu; omega) n⟩)))
def spBkEq (K : PySem.W.Frag) (C : Addr) : Sp := fun vs H Q _ => ∃ (r l r' l' : Addr) (P P' : List WP), vs = [.ref r, .ref r'] ∧ Bk C r l P H ∧ Bk C r' l' P' H ∧ TF K (knW P) H ∧ TF K (knW P') H ∧ Q (.bl (decide (wsOf P = wsOf P'))) H
theorem Bk.same {C r l : Addr} {P : List WP} {H H' : Hp} (h : Bk C r l P H) (s : Same H H') : Bk C r l P H' := by
  obtain ⟨⟨dx, h1⟩, h2⟩ := h
  exact ⟨⟨dx, s _ _ h1⟩, s _ _ h2⟩
theorem sqL_mvI {K : PySem.W.Frag} {H H' : Hp} {r C dx a : Addr} {fs : List (Str × V)} {xs : List V} (m : MvF [r] H H') (e : H r = some (.ins C dx fs)) (h : SqL K H a xs) : SqL K H' a xs := lk_l (fun b o eb k => m.kp b o (fun z => by
  rw [in1 z, e] at eb
  cases eb
  rcases k with ⟨_, z⟩ | ⟨_, z⟩ | ⟨_, _, z⟩ <;> cases z) eb) h
theorem sc_has_room : FnScope ["words"] ["words"] (defScope s_has_room) := ⟨rfl, rfl, rfl, by decide +kernel, rfl, by decide +kernel, by decide +kernel⟩
theorem ok_has_room {f : Addr} {fd : FuncData} {k : Nat} {t1 t2 : Tok} (F : Fun K "has_room" "has_room" s_has_room f fd) (n_len : mg "len" = none) (g_BYTE_WORDS : mg "BYTE_WORDS" = some (.int 256 t1)) (g_MOST_WORDS : mg "MOST_WORDS" = some (.int 300 t2)) : FnOk P w K mg base CX0 (k + 1) f fd ["words"] (spRoom K) := by
  have sc := sc_has_room
  refine F.ok sc (fun vs H Q E h => ?_) (fun cdv A outer s H vs Q E hr h => ?_)
  · obtain ⟨l, xs, rfl, _⟩ := h
    rfl
  · obtain ⟨l, xs, rfl, hl, q⟩ := h
    refine ⟨_, (pss_one (ps_ret (pe_cmpR op_lt (pe_op op_add (pe_glob (v := .int 256) (by rfl) g_BYTE_WORDS ⟨_, rfl⟩) (pe_callB (call_lenK K rfl) (by rfl) n_len PySem.boot_len (pa_cons (pv 0) pa_nil))) (pe_glob (v := .int 300) (by rfl) g_MOST_WORDS ⟨_, rfl⟩) (nomark _)))), ?_⟩
    refine ⟨_, rfl, l, _, rfl, .inl hl, _, _, rfl, rfl, _, _, rfl, rfl, ?_⟩
    have e : decide ((256 : Int) + (xs.length : Int) < 300) = decide (xs.length < 44) := decide_eq_decide.mpr ⟨fun h => by omega, fun h => by omega⟩
    show Q (V.bl (decide ((256 : Int) + (xs.length : Int) < 300))) H
    rw [e]
    exact q
theorem sc_words_at_beginning : FnScope ["words"] ["words"] (defScope s_words_at_beginning) := ⟨rfl, rfl, rfl, by decide +kernel, rfl, by decide +kernel, by decide +kernel⟩
theorem ok_words_at_beginning {f : Addr} {fd : FuncData} {k : Nat} (F : Fun K "words_at_beginning" "words_at_beginning" s_words_at_beginning f fd) (n_list : mg "list" = none) (c_has_room : Cal P w K mg base k "has_room" ["words"] (spRoom K)) : FnOk P w K mg base CX0 (k + 1) f fd ["words"] (spWAB K) := by
  have sc := sc_words_at_beginning
  refine F.ok sc (fun vs H Q E h => ?_) (fun cdv A outer s H vs Q E hr h => ?_)
  · obtain ⟨l, xs, rfl, _⟩ := h
    rfl
  · obtain ⟨l, xs, rfl, hl, q⟩ := h
    refine ⟨_, (pss_one (ps_ret (pe_ifExp (pt_val (pe_callC c_has_room hr (by rfl) (pa_cons (pv 0) pa_nil))) (pe_callTy (call_listK K rfl) (by rfl) n_list (by decide +kernel) (pa_cons (pv 0) pa_nil)) (pe_lst pa_nil)))), ?_⟩
    refine ⟨_, rfl, l, xs, rfl, hl, _, rfl, ite2 (fun e => ?_) (fun e => ?_)⟩
    · have e : xs.length < 44 := of_decide_eq_true e
      rw [if_pos e] at q
      exact ⟨_, rfl, l, xs, rfl, .inl hl, q⟩
    · have e : ¬ xs.length < 44 := fun z => e (decide_eq_true z)
      rw [if_neg e] at q
      exact ⟨Nat.zero_le _, q⟩
theorem sc_word_of : FnScope ["words", "code"] ["words", "code"] (defScope s_word_of) := ⟨rfl, rfl, rfl, by decide +kernel, rfl, by decide +kernel, by decide +kernel⟩
theorem ok_word_of {f : Addr} {fd : FuncData} {k : Nat} {t1 : Tok} (F : Fun K "word_of" "word_of" s_word_of f fd) (g_BYTE_WORDS : mg "BYTE_WORDS" = some (.int 256 t1)) : FnOk P w K mg base CX0 (k + 1) f fd ["words", "code"] (spWO K) := by
  have sc := sc_word_of
  refine F.ok sc (fun vs H Q E h => ?_) (fun cdv A outer s H vs Q E hr h => ?_)
  · obtain ⟨l, c, P, rfl, _⟩ := h
    rfl
  · obtain ⟨l, c, P, rfl, hl, ht, h0, h1, q⟩ := h
    refine ⟨_, (pss_one (ps_ret (pe_ifExp (pt_cmpR op_lt (pv 1) (pe_glob (v := .int 256) (by rfl) g_BYTE_WORDS ⟨_, rfl⟩) (nomark _)) (pe_tup (pa_cons (pv 1) pa_nil)) (pe_ix (ix_listK K rfl) (pv 0) (pe_op op_sub (pv 1) (pe_glob (v := .int 256) (by rfl) g_BYTE_WORDS ⟨_, rfl⟩)) (fun _ _ => rfl))))), ?_⟩
    refine ⟨_, rfl, _, _, rfl, rfl, _, rfl, ite2 (fun e => ?_) (fun e => ?_)⟩
    · have e : c < 256 := of_decide_eq_true e
      refine ⟨_, rfl, (by show 1 ≤ sizeLine; decide), fun t nt => q _ t (same_upd nt) ?_⟩
      have ew : bkWord (wsOf P) c = [c] := if_pos e
      rw [ew]
      exact SqT.of upd_same
    · have e : ¬ c < 256 := fun z => e (decide_eq_true z)
      obtain ⟨j, rfl⟩ : ∃ j : Nat, c = 256 + (j : Int) := ⟨(c - 256).toNat, by omega⟩
      obtain ⟨p, hp⟩ := getElem?_ex (show j < P.length by omega)
      have hx : (refsW P)[j]? = some (.ref p.1) := by rw [List.getElem?_map, hp]; rfl
      refine ⟨_, rfl, _, rfl, _, _, rfl, rfl, l, _, _, _, rfl, rfl, hl, (by rw [show (256 + (j : Int) - 256) = (j : Int) by omega]; exact atI_nat hx), ?_⟩
      refine q H p.1 (Same.refl _) ?_
      have ew : bkWord (wsOf P) (256 + (j : Int)) = p.2 := by
        unfold bkWord
        rw [if_neg e, show (256 + (j : Int) - 256).toNat = j by omega, List.getD_eq_getElem?_getD, wsOf_at hp]
        rfl
      rw [ew]
      exact tf_at ht hp
theorem sc_longest_code : FnScope ["words", "row", "at", "best", "longest", "place", "word"] ["words", "row", "at"] (defScope s_longest_code) := ⟨rfl, rfl, rfl, by decide +kernel, rfl, by decide +kernel, by decide +kernel⟩
theorem ok_longest_code {f : Addr} {fd : FuncData} {k : Nat} {t1 : Tok} (F : Fun K "longest_code" "longest_code" s_longest_code f fd) (n_len : mg "len" = none) (n_enumerate : mg "enumerate" = none) (n_tuple : mg "tuple" = none) (g_BYTE_WORDS : mg "BYTE_WORDS" = some (.int 256 t1)) : FnOk P w K mg base CX0 (k + 1) f fd ["words", "row", "at"] (spLC K) := by
  have sc := sc_longest_code
  refine F.ok sc (fun vs H Q E h => ?_) (fun cdv A outer s H vs Q E hr h => ?_)
  · obtain ⟨l, a, i, P, ns, rfl, _⟩ := h
    rfl
  · obtain ⟨l, a, i, P, ns, rfl, hl, ht, ha, hi, q⟩ := h
    refine ⟨_, (pss_cons (ps_set (i := 3) sc.nd rfl (.inl rfl) (pe_ix (ix_listK K rfl) (pv 1) (pv 2) (fun _ _ => rfl)))
 (pss_cons (ps_set (i := 4) sc.nd rfl (.inl rfl) pe_int)
 (pss_cons (ps_for PassesOwn.never rfl (pi_enum (by rfl) n_enumerate (pa_cons (pv 0) pa_nil)) (pg_tup rfl (pgs_cons (pg_name (i := 5) sc.nd rfl (.inl rfl)) (pgs_cons (pg_name (i := 6) sc.nd rfl (.inl rfl)) pgs_nil)))
  (pss_one (ps_if (PW.pt (pw_and (pt_cmpR op_gt (pe_callB (call_lenK K rfl) (by rfl) n_len PySem.boot_len (pa_cons (pv 6) pa_nil)) (pv 4) (nomark _)) (pw_and1 (pt_cmpR (op_eqDK K rfl hr.units) (pe_callTy (call_tupleK K rfl) (by rfl) n_tuple (by decide +kernel) (pa_cons (pe_slice (sl_listK K rfl) (pv 1) (po_some (pv 2)) (po_some (pe_op op_add (pv 2) (pe_callB (call_lenK K rfl) (by rfl) n_len PySem.boot_len (pa_cons (pv 6) pa_nil))))) pa_nil)) (pv 6) (nomark _)))))
  (pss_cons (ps_set (i := 3) sc.nd rfl (.inl rfl) (pe_op op_add (pe_glob (v := .int 256) (by rfl) g_BYTE_WORDS ⟨_, rfl⟩) (pv 5)))
 (pss_one (ps_set (i := 4) sc.nd rfl (.inl rfl) (pe_callB (call_lenK K rfl) (by rfl) n_len PySem.boot_len (pa_cons (pv 6) pa_nil)))))
  pss_nil)))
 (pss_one (ps_ret (pv 3)))))), ?_⟩
    obtain ⟨x, hx⟩ := getElem?_ex hi
    have hx2 : (ns.map V.int)[i]? = some (.int x) := by rw [List.getElem?_map, hx]; rfl
    refine ⟨_, rfl, _, rfl, a, _, _, _, rfl, rfl, ha, atI_nat hx2, ?_⟩
    have hd0 : (ns.drop i).headD 0 = x := by
      rw [List.headD_eq_head?_getD, List.head?_drop, hx]
      rfl
    refine name_by ?_
    refine const_by ?_
    dsimp only
    refine ⟨_, rfl, l, _, rfl, hl, for_enumK (xs := refsW P) (fun j σ H' => ∃ y5 y6, σ = [some (.ref l), some (.ref a), some (.int (i : Int)), some (.int (bkBest (ns.drop i) (wsOf P) j).1), some (.int ((bkBest (ns.drop i) (wsOf P) j).2 : Nat)), y5, y6] ∧ Same H H') ⟨none, none, by show _ = [_, _, _, some (V.int ((ns.drop i).headD 0)), _, _, _]; rw [hd0]; rfl, Same.refl H⟩ (fun j σ H' _ h => ?_) ?_ ?_⟩
    · obtain ⟨_, _, _, sm⟩ := h
      exact sm.seq hl
    · rintro j y T σ H1 hy ⟨y5, y6, rfl, s1⟩ nT
      obtain ⟨p, hp, rfl⟩ := refsW_at hy
      have hu : (wsOf P)[j]? = some p.2 := wsOf_at hp
      have s2 := s1.trans (same_upd (o := .tup [.int (j : Nat), .ref p.1]) nT)
      refine ⟨T, _, rfl, SqT.of upd_same, rfl, _, _, rfl, _, _, rfl, rfl, ?_⟩
      generalize upd H1 T (.tup [.int (j : Nat), .ref p.1]) = H2 at s2 ⊢
      have hpt : SqT K H2 p.1 (p.2.map V.int) := same_t s2 (tf_at ht hp)
      have eb : bkBest (ns.drop i) (wsOf P) (j + 1) = if (bkBest (ns.drop i) (wsOf P) j).2 < p.2.length ∧ (ns.drop i).take p.2.length = p.2 then (256 + (j : Int), p.2.length) else bkBest (ns.drop i) (wsOf P) j := by
        show (match (wsOf P)[j]? with | some u => _ | none => _) = _
        rw [hu]
      refine ⟨_, rfl, p.1, _, rfl, .inr hpt, _, rfl, _, _, rfl, rfl, _, rfl, ite2 (fun e => ?_) (fun e => ?_)⟩
      · have e : (bkBest (ns.drop i) (wsOf P) j).2 < p.2.length := by
          have := of_decide_eq_true e
          rw [List.length_map] at this
          omega
        refine ⟨_, rfl, _, rfl, _, rfl, _, rfl, _, rfl, p.1, _, rfl, .inr hpt, _, _, rfl, rfl, _, rfl, a, _, rfl, s2.seq ha, fun p3 n3 => ?_⟩
        have ec : cutV (ns.map V.int) (some (i : Int)) (some ((i : Int) + ((p.2.map V.int).length : Int))) = ((ns.drop i).take p.2.length).map V.int := by
          rw [List.length_map, show (i : Int) + (p.2.length : Int) = ((i + p.2.length : Nat) : Int) by omega, cut_mid _ _ _ (by omega), Nat.add_sub_cancel_left, List.map_take, List.map_drop]
        rw [ec]
        have s3 := s2.trans (same_upd (o := .lst (((ns.drop i).take p.2.length).map V.int)) n3)
        refine ⟨p3, _, rfl, .inl ⟨SqL.of upd_same, fun p4 n4 => ?_⟩⟩
        have s4 := s3.trans (same_upd (o := .tup (((ns.drop i).take p.2.length).map V.int)) n4)
        refine ⟨_, rfl, .tuple (((ns.drop i).take p.2.length).map .int), .tuple (p.2.map .int), .tup (SqT.of upd_same) (dpa_ints _), .tup (same_t (same_upd n4) (same_t (same_upd n3) hpt)) (dpa_ints _), shaped_tupI _, shaped_tupI _, ?_⟩
        rw [eqv_tupI]
        generalize upd (upd H2 p3 (.lst (((ns.drop i).take p.2.length).map V.int))) p4 (.tup (((ns.drop i).take p.2.length).map V.int)) = H4 at s4 ⊢
        refine ⟨_, rfl, ite2 (fun e2 => ?_) (fun e2 => ?_)⟩
        · have e2 : (ns.drop i).take p.2.length = p.2 := of_decide_eq_true e2
          refine ⟨_, rfl, _, _, rfl, rfl, _, rfl, p.1, _, rfl, .inr (same_t s4 (tf_at ht hp)), ?_⟩
          refine ⟨some (.int (j : Nat)), some (.ref p.1), ?_, s4⟩
          rw [eb, if_pos ⟨e, e2⟩, List.length_map]
          rfl
        · have e2 : ¬ (ns.drop i).take p.2.length = p.2 := fun z => e2 (decide_eq_true z)
          refine ⟨some (.int (j : Nat)), some (.ref p.1), ?_, s4⟩
          rw [eb, if_neg (fun z => e2 z.2)]
          rfl
      · have e : ¬ (bkBest (ns.drop i) (wsOf P) j).2 < p.2.length := fun z => e (decide_eq_true (by rw [List.length_map]; omega))
        refine iteF ⟨some (.int (j : Nat)), some (.ref p.1), ?_, s2⟩
        rw [eb, if_neg (fun z => e z.1)]
        rfl
    · rintro σ H1 ⟨y5, y6, rfl, s1⟩
      refine ⟨_, rfl, ?_⟩
      have := q H1 s1
      unfold bkCode at this
      rw [wsOf_len] at this
      rw [show (refsW P).length = P.length from List.length_map _]
      exact this
theorem sc_learn : FnScope ["words", "ahead", "word", "grown"] ["words", "ahead", "word"] (defScope s_learn) := ⟨rfl, rfl, rfl, by decide +kernel, rfl, by decide +kernel, by decide +kernel⟩
theorem cut1 (u : List Int) : cutV (u.map V.int) none (some 1) = (u.take 1).map V.int := by
  have := cut_to_n (u.map V.int) 1
  rw [show ((1 : Nat) : Int) = 1 from rfl] at this
  rw [this, List.map_take]
theorem ok_learn {f : Addr} {fd : FuncData} {k : Nat} (F : Fun K "learn" "learn" s_learn f fd) (n_len : mg "len" = none) (c_has_room : Cal P w K mg base k "has_room" ["words"] (spRoom K)) : FnOk P w K mg base CX0 (k + 1) f fd ["words", "ahead", "word"] (spLearn K) := by
  have sc := sc_learn
  refine F.ok sc (fun vs H Q E h => ?_) (fun cdv A outer s H vs Q E hr h => ?_)
  · obtain ⟨l, ta, tu, P, a, u, rfl, _⟩ := h
    rfl
  · obtain ⟨l, ta, tu, P, a, u, rfl, hl, ht, hta, htu, hal, hPl, q⟩ := h
    refine ⟨_, (pss_cons (ps_set (i := 3) sc.nd rfl (.inl rfl) (pe_op (op_catAK K rfl) (pv 1) (pe_slice (sl_tupAK K rfl) (pv 2) po_none (po_some pe_int))))
 (pss_one (ps_if (PW.pt (pw_and (pt_cmpR op_gt (pe_callB (call_lenK K rfl) (by rfl) n_len PySem.boot_len (pa_cons (pv 1) pa_nil)) pe_int (nomark _)) (pw_and (pt_val (pe_callC c_has_room hr (by rfl) (pa_cons (pv 0) pa_nil))) (pw_and1 (pt_cmpR (op_notInDK K rfl hr) (pv 3) (pv 0) (by rfl))))))
  (pss_one (ps_expr (pe_bmK K rfl PySem.F.plainAttrs_list PySem.F.slot_list_append PySem.F.type_list_append mt_append (pv 0) (pa_cons (pv 3) pa_nil))))
  pss_nil))), ?_⟩
    refine asg_by (J := fun v H1 => ∃ g, v = .ref g ∧ Same H H1 ∧ SqT K H1 g ((a ++ u.take 1).map V.int)) ?_ (fun rest => ?_)
    · rintro v H1 ⟨g, rfl, s1, hg⟩
      have stay : ¬ (a ≠ [] ∧ (wsOf P).length < 44 ∧ a ++ u.take 1 ∉ wsOf P) → Q .non H1 := fun no => q H1 P (.of s1) (s1 _ _ hl) (ht.same s1) (by unfold bkLearn; rw [if_neg no])
      refine ⟨_, rfl, ta, _, rfl, .inr (same_t s1 hta), _, _, rfl, rfl, _, rfl, ite2 (fun e => ?_) (fun e => ?_)⟩
      · have e : a ≠ [] := by
          have := of_decide_eq_true e
          rw [List.length_map] at this
          intro z
          subst z
          exact absurd this (by decide)
        refine ⟨_, rfl, l, _, rfl, SqL.of (s1 _ _ hl), _, rfl, ite2 (fun e2 => ?_) (fun e2 => ?_)⟩
        · have e2 : (wsOf P).length < 44 := by
            have := of_decide_eq_true e2
            rw [List.length_map] at this
            rw [wsOf_len]
            exact this
          refine ⟨_, rfl, _, rfl, .tuple ((a ++ u.take 1).map .int), _, .tup hg (dpa_ints _), dp_words (SqL.of (s1 _ _ hl)) (ht.same s1), shaped_tupI _, shaped_words _, ?_⟩
          rw [any_words]
          refine ⟨_, rfl, ite2 (fun e3 => ?_) (fun e3 => ?_)⟩
          · have e3 : a ++ u.take 1 ∉ wsOf P := fun z => by rw [decide_eq_true z] at e3; exact absurd e3 (by decide)
            refine ⟨_, rfl, .inl ⟨rfl, _, SqL.of (s1 _ _ hl)⟩, _, rfl, l, _, _, rfl, rfl, s1 _ _ hl, ?_, ?_⟩
            · rw [List.length_map]
              exact sz4l (by omega)
            refine q _ (P ++ [(g, a ++ u.take 1)]) ((MvF.of s1).upd (.head _)) ?_ ?_ ?_
            · rw [upd_same]
              show _ = some (HO.lst ((P ++ [(g, a ++ u.take 1)]).map rfW))
              rw [List.map_append]
              rfl
            · refine TF.mvf (F := [l]) ((MvF.refl [l] H1).upd (.head _)) (fun b hb o eo => ?_) (tf_snoc (ht.same s1) hg)
              rw [in1 hb, s1 _ _ hl] at eo
              cases eo
              trivial
            · rw [wsOf_app]
              unfold bkLearn
              rw [if_pos ⟨e, e2, e3⟩]
              rfl
          · have e3 : a ++ u.take 1 ∈ wsOf P := by
              by_cases z : a ++ u.take 1 ∈ wsOf P
              · exact z
              · exact absurd (by rw [decide_eq_false z]; rfl) e3
            exact stay (fun z => z.2.2 e3)
        · exact iteF (stay (fun z => e2 (decide_eq_true (by rw [List.length_map]; have := z.2.1; rw [wsOf_len] at this; exact this))))
      · exact iteF (stay (fun z => e (decide_eq_true (by rw [List.length_map]; have := List.length_pos_iff.mpr z.1; omega))))
    · have cat : ∀ (Z : VK), (∀ v H1, (∃ g, v = .ref g ∧ Same H H1 ∧ SqT K H1 g ((a ++ u.take 1).map V.int)) → Z v H1) → ∀ (H1 : Hp) (t : Addr), Same H H1 → SqT K H1 t ((u.take 1).map V.int) → rCatA K (.ref ta) (.ref t) H1 Z := by
        intro Z rest H1 t s1 htt
        refine ⟨ta, t, a.map V.int, (u.take 1).map V.int, rfl, rfl, same_t s1 hta, htt, ?_, (fun e => ?_), (fun e1 e2 => ?_), (fun e1 e2 p np => ?_)⟩
        · rw [List.length_map, List.length_map, List.length_take]
          exact sz4 (by omega)
        · have e : a = [] := List.map_eq_nil_iff.mp e
          exact rest _ _ ⟨t, rfl, s1, by rw [e, List.nil_append]; exact htt⟩
        · have e2 : u.take 1 = [] := List.map_eq_nil_iff.mp e2
          exact rest _ _ ⟨ta, rfl, s1, by rw [e2, List.append_nil]; exact same_t s1 hta⟩
        · exact rest _ _ ⟨p, rfl, s1.trans (same_upd np), by rw [List.map_append]; exact SqT.of upd_same⟩
      refine ⟨_, rfl, _, rfl, 1, rfl, tu, _, rfl, htu, (fun hw => ?_), (fun hw p np => ?_)⟩
      · refine cat _ (fun v H1 h => rest v H1 h) H tu (Same.refl _) ?_
        have : u.take 1 = u := by
          refine List.take_of_length_le ?_
          have := hw.2
          rw [show (some (1 : Int)) = some ((1 : Nat) : Int) from rfl, HT.sIx_nat, List.length_map] at this
          omega
        rw [this]
        exact htu
      · rw [cut1]
        exact cat _ (fun v H1 h => rest v H1 h) _ p (same_upd np) (SqT.of upd_same)
theorem sc_check_bits : FnScope ["bits", "at", "bit"] ["bits"] (defScope s_check_bits) := ⟨rfl, rfl, rfl, by decide +kernel, rfl, by decide +kernel, by decide +kernel⟩
/-- all of them are bits, or the first that is none -/
def spCheckX (K : PySem.W.Frag) (C : Addr) : Sp := fun vs H Q E => ∃ (a : Addr) (ns : List Int), vs = [.ref a] ∧ SqL K H a (ns.map V.int) ∧ ns.length ≤ 100000 ∧ (Bits ns → ∀ H', Same H H' → Q .non H') ∧
  (∀ (i : Nat) (z : Int), ns[i]? = some z → ¬ isB z → Bits (ns.take i) → ∀ H' d, Same H H' → H d = none → H' d = some (.xd [(("at" : Str), .int (i : Int)), (("word" : Str), .str "BadBit")]) → E (.ref C) (some d) H')
theorem log_le {n : Nat} (h : n ≤ 100000) : ((n : Int)).natAbs.log2 < 1000 := by
  rw [Int.natAbs_natCast]
  by_cases z : n = 0
  · subst z
    decide
  · exact (Nat.log2_lt z).mpr (Nat.lt_of_le_of_lt h (by decide))
theorem ok_check_bits {f C : Addr} {fd : FuncData} {k : Nat} (F : Fun K "check_bits" "check_bits" s_check_bits f fd) (n_enumerate : mg "enumerate" = none) (x_BadBit : XcOk P w K mg base k "BadBit" C (spIni K C "BadBit" "at")) : FnOk P w K mg base (L2.CX P w) (k + 2) f fd ["bits"] (spCheckX K C) := by
  have sc := sc_check_bits
  refine F.okX sc (fun vs H Q E h => ?_) (fun cdv A outer s H vs Q E hr h => ?_)
  · obtain ⟨a, ns, rfl, _⟩ := h
    rfl
  · obtain ⟨a, ns, rfl, hS, hl, q, qe⟩ := h
    refine ⟨_, (pss_one (ps_for (passes_of rfl) rfl (pi_enum (by rfl) n_enumerate (pa_cons (pv 0) pa_nil)) (pg_tup rfl (pgs_cons (pg_name (i := 1) sc.nd rfl (.inl rfl)) (pgs_cons (pg_name (i := 2) sc.nd rfl (.inl rfl)) pgs_nil)))
  (pss_one (ps_if (pt_cmpR (op_notInK K rfl) (pv 2) (pe_tup (pa_cons pe_int (pa_cons pe_int pa_nil))) (by rfl))
  (pss_one (ps_raise rfl (takes_of rfl rfl rfl rfl) (pmk_c x_BadBit hr (by rfl) (pa_cons (pv 1) pa_nil))))
  pss_nil)))), ?_⟩
    refine ⟨_, rfl, a, _, rfl, hS, for_enumK (xs := ns.map V.int) (fun i σ H' => ∃ y1 y2, σ = [some (.ref a), y1, y2] ∧ Same H H' ∧ Bits (ns.take i)) ⟨none, none, rfl, Same.refl H, bits_nil⟩ (fun i σ H' _ h => ?_) ?_ ?_⟩
    · obtain ⟨y1, y2, _, sm, _⟩ := h
      exact sm.seq hS
    · rintro i x T σ H' hx ⟨y1, y2, rfl, sm, hbi⟩ nT
      obtain ⟨z, hz, rfl⟩ := getI hx
      have s1 := sm.trans (same_upd (o := .tup [.int (i : Nat), .int z]) nT)
      refine ⟨T, _, rfl, SqT.of upd_same, rfl, _, _, rfl, _, _, rfl, rfl, ?_⟩
      refine ⟨_, rfl, (by show 2 ≤ sizeLine; decide), fun p np => ?_⟩
      have s2 := s1.trans (same_upd (o := .tup [.int 0, .int 1]) np)
      refine ⟨p, _, rfl, .inr (SqT.of upd_same), rfl, rfl, _, rfl, ite2 (fun e => ?_) (fun e => ?_)⟩
      · have e : (!inV (.int z) [.int 0, .int 1]) = true := e
        have nb : ¬ isB z := by
          rintro (rfl | rfl)
          · exact absurd e (by decide)
          · exact absurd e (by decide)
        have hil : i < ns.length := (List.getElem?_eq_some_iff.mp hz).1
        refine ⟨_, rfl, mk_inner (log_le (by omega)) (fun H3 d s3 nd ed => qe i z hz nb hbi H3 d (s2.trans s3) (s2.free nd) ed)⟩
      · have e : ¬ (!inV (.int z) [.int 0, .int 1]) = true := e
        have yb : isB z := by
          have hh : inV (.int z) (([0, 1] : List Int).map V.int) = true := by
            cases q : inV (.int z) [.int 0, .int 1] with
            | true => exact q
            | false => rw [q] at e; exact absurd rfl e
          rw [inV_ints] at hh
          have := of_decide_eq_true hh
          simpa [isB] using this
        refine ⟨_, _, rfl, s2, ?_⟩
        rw [take_more hz]
        exact bits_app hbi (bits_one yb)
    · rintro σ H' ⟨y1, y2, rfl, sm, hbi⟩
      rw [List.length_map, List.take_length] at hbi
      exact q hbi H' sm
theorem sc_check_bytes : FnScope ["row", "at", "byte"] ["row"] (defScope s_check_bytes) := ⟨rfl, rfl, rfl, by decide +kernel, rfl, by decide +kernel, by decide +kernel⟩
def spCheckY (K : PySem.W.Frag) (C : Addr) : Sp := fun vs H Q E => ∃ (a : Addr) (ns : List Int), vs = [.ref a] ∧ SqL K H a (ns.map V.int) ∧ ns.length ≤ 100000 ∧ (Bytes ns → ∀ H', Same H H' → Q .non H') ∧
  (∀ (i : Nat) (z : Int), ns[i]? = some z → ¬ isY z → Bytes (ns.take i) → ∀ H' d, Same H H' → H d = none → H' d = some (.xd [(("at" : Str), .int (i : Int)), (("word" : Str), .str "BadByte")]) → E (.ref C) (some d) H')
theorem ok_check_bytes {f C : Addr} {fd : FuncData} {k : Nat} {tG : Tok} (F : Fun K "check_bytes" "check_bytes" s_check_bytes f fd) (n_enumerate : mg "enumerate" = none) (g_GREATEST_BYTE : mg "GREATEST_BYTE" = some (.int 255 tG)) (x_BadByte : XcOk P w K mg base k "BadByte" C (spIni K C "BadByte" "at")) : FnOk P w K mg base (L2.CX P w) (k + 2) f fd ["row"] (spCheckY K C) := by
  have sc := sc_check_bytes
  refine F.okX sc (fun vs H Q E h => ?_) (fun cdv A outer s H vs Q E hr h => ?_)
  · obtain ⟨a, ns, rfl, _⟩ := h
    rfl
  · obtain ⟨a, ns, rfl, hS, hl, q, qe⟩ := h
    refine ⟨_, (pss_one (ps_for (passes_of rfl) rfl (pi_enum (by rfl) n_enumerate (pa_cons (pv 0) pa_nil)) (pg_tup rfl (pgs_cons (pg_name (i := 1) sc.nd rfl (.inl rfl)) (pgs_cons (pg_name (i := 2) sc.nd rfl (.inl rfl)) pgs_nil)))
  (pss_one (ps_if (PW.pt (pw_or (pt_cmpR op_lt (pv 2) pe_int (nomark _)) (pw_or1 (pt_cmpR op_gt (pv 2) (pe_glob (v := .int 255) (by rfl) g_GREATEST_BYTE ⟨_, rfl⟩) (nomark _)))))
  (pss_one (ps_raise rfl (takes_of rfl rfl rfl rfl) (pmk_c x_BadByte hr (by rfl) (pa_cons (pv 1) pa_nil))))
  pss_nil)))), ?_⟩
    refine ⟨_, rfl, a, _, rfl, hS, for_enumK (xs := ns.map V.int) (fun i σ H' => ∃ y1 y2, σ = [some (.ref a), y1, y2] ∧ Same H H' ∧ Bytes (ns.take i)) ⟨none, none, rfl, Same.refl H, fun z hz => absurd hz List.not_mem_nil⟩ (fun i σ H' _ h => ?_) ?_ ?_⟩
    · obtain ⟨y1, y2, _, sm, _⟩ := h
      exact sm.seq hS
    · rintro i x T σ H' hx ⟨y1, y2, rfl, sm, hbi⟩ nT
      obtain ⟨z, hz, rfl⟩ := getI hx
      have hil : i < ns.length := (List.getElem?_eq_some_iff.mp hz).1
      have s1 := sm.trans (same_upd (o := .tup [.int (i : Nat), .int z]) nT)
      refine ⟨T, _, rfl, SqT.of upd_same, rfl, _, _, rfl, _, _, rfl, rfl, ?_⟩
      have bad : ¬ isY z → ∀ R : XK, R = E → True := fun _ _ _ => trivial
      refine ⟨_, rfl, _, _, rfl, rfl, _, rfl, ite2 (fun e => ?_) (fun e => ?_)⟩
      · have nb : ¬ isY z := by
          have := of_decide_eq_true e
          unfold isY
          omega
        exact iteT ⟨_, rfl, mk_inner (log_le (by omega)) (fun H3 d s3 nd ed => qe i z hz nb hbi H3 d (s1.trans s3) (s1.free nd) ed)⟩
      · have e0 : ¬ z < 0 := fun y => e (decide_eq_true y)
        refine ⟨_, rfl, _, _, rfl, rfl, _, rfl, ite2 (fun e => ?_) (fun e => ?_)⟩
        · have nb : ¬ isY z := by
            have := of_decide_eq_true e
            unfold isY
            omega
          exact ⟨_, rfl, mk_inner (log_le (by omega)) (fun H3 d s3 nd ed => qe i z hz nb hbi H3 d (s1.trans s3) (s1.free nd) ed)⟩
        · have e1 : ¬ (255 : Int) < z := fun y => e (decide_eq_true y)
          refine ⟨_, _, rfl, s1, ?_⟩
          rw [take_more hz]
          intro y hy
          rcases List.mem_append.mp hy with h | h
          · exact hbi y h
          · rw [List.mem_singleton.mp h]
            unfold isY
            omega
    · rintro σ H' ⟨y1, y2, rfl, sm, hbi⟩
      rw [List.length_map, List.take_length] at hbi
      exact q hbi H' sm
theorem sc_number_bits : FnScope ["number", "many", "place"] ["number", "many"] (defScope s_number_bits) := ⟨rfl, rfl, rfl, by decide +kernel, rfl, by decide +kernel, by decide +kernel⟩
def spNbX (cN : Addr) : Sp := fun vs H Q E => ∃ (n mm : Int), vs = [.int n, .int mm] ∧
  (∀ m : Nat, mm = (m : Int) → m ≤ 64 → 0 ≤ n → n < 2 ^ m → ∀ (H' : Hp) (p : Addr), Same H H' → H p = none → H' p = some (.lst ((wr m n).map V.int)) → Q (.ref p) H') ∧
  (mm < 0 ∨ 64 < mm ∨ n < 0 ∨ 2 ^ mm.toNat ≤ n → ∀ H' d, Same H H' → H d = none → H' d = some (.xd [(("word" : Str), .str "BadCount")]) → E (.ref cN) (some d) H')
theorem wr_get : ∀ (m : Nat) (n : Int) (i : Nat), i < m → (wr m n)[i]? = some (n / 2 ^ (m - 1 - i) % 2)
  | m + 1, n, 0, _ => by
    show some (n / 2 ^ m % 2) = _
    rfl
  | m + 1, n, i + 1, h => by
    show (wr m n)[i]? = _
    rw [wr_get m n i (by omega), show m + 1 - 1 - (i + 1) = m - 1 - i by omega]
theorem lc_rngC {lo c : Int} {n : Nat} {g : TG} {tt : TT} {te : TE} {vs : List Nat} {σ : L2.St} {H1 : Hp} {D : Addr} {Qd : Hp → Prop} (Pv : Nat → Hp → Prop) (p0 : Pv 0 (upd H1 D (.lst [])))
    (ps : ∀ i H, i < n → Pv i H → g (.int (lo + (i : Nat) * c)) (wipe σ vs) H fun σ2 H2 => wipe σ2 vs = wipe σ vs ∧ tt σ2 H2 fun b H3 =>
      if b = true then te σ2 H3 fun y H4 => ∃ acc, H4 D = some (.lst acc) ∧ acc.length < sizeLine ∧ Pv (i + 1) (upd H4 D (.lst (acc ++ [y]))) else Pv (i + 1) H3) (pd : ∀ H, Pv n H → Qd H) :
    ∃ W : Nat → Nat → Hp → Prop, (∃ m, W 0 m (upd H1 D (.lst []))) ∧ ∀ i m H, W i m H →
      ((Itc lo c n).stop i H ∧ Qd H) ∨ ((Itc lo c n).go i H ∧ ∃ Nx : Hp → Prop, (∀ H', Nx H' → ∃ m', m' < m ∧ W (i + 1) m' H') ∧ ∀ y H', (Itc lo c n).yld i H y H' → g y (wipe σ vs) H' fun σ2 H2 => wipe σ2 vs = wipe σ vs ∧ tt σ2 H2 fun b H3 =>
        if b = true then te σ2 H3 fun y H4 => ∃ acc, H4 D = some (.lst acc) ∧ acc.length < sizeLine ∧ Nx (upd H4 D (.lst (acc ++ [y]))) else Nx H3) := by
  refine ⟨fun i m H => m = n - i ∧ i ≤ n ∧ Pv i H, ⟨_, rfl, Nat.zero_le _, p0⟩, fun i m H hw => ?_⟩
  obtain ⟨rfl, hi, p⟩ := hw
  by_cases hlt : i < n
  · refine .inr ⟨hlt, Pv (i + 1), fun H' p' => ⟨n - (i + 1), by omega, rfl, hlt, p'⟩, fun y H' hy => ?_⟩
    obtain ⟨rfl, rfl⟩ := hy
    exact ps i _ hlt p
  · obtain rfl : i = n := by omega
    exact .inl ⟨Nat.le_refl _, pd H p⟩
theorem ok_number_bits {f cN : Addr} {fd : FuncData} {k : Nat} {tM : Tok} (F : Fun K "number_bits" "number_bits" s_number_bits f fd) (n_range : mg "range" = none) (g_MOST_BITS : mg "MOST_BITS" = some (.int 64 tM)) (x_BadCount : XcOk P w K mg base k "BadCount" cN (spIni0 K cN "BadCount")) : FnOk P w K mg base (L2.CX P w) (k + 2) f fd ["number", "many"] (spNbX cN) := by
  have sc := sc_number_bits
  refine F.okX sc (fun vs H Q E h => ?_) (fun cdv A outer s H vs Q E hr h => ?_)
  · obtain ⟨n, m, rfl, _⟩ := h
    rfl
  · obtain ⟨n, mm, rfl, q', qn⟩ := h
    refine ⟨_, (pss_cons (ps_if (PW.pt (pw_or (pt_cmpR op_lt (pv 1) pe_int (nomark _)) (pw_or (pt_cmpR op_gt (pv 1) (pe_glob (v := .int 64) (by rfl) g_MOST_BITS ⟨_, rfl⟩) (nomark _)) (pw_or (pt_cmpR op_lt (pv 0) pe_int (nomark _)) (pw_or1 (pt_cmpR op_ne (pe_op op_shr (pv 0) (pv 1)) pe_int (nomark _)))))))
  (pss_one (ps_raise rfl (takes_of rfl rfl rfl rfl) (pmk_c0 x_BadCount hr (by rfl))))
  pss_nil)
 (pss_one (ps_ret (pe_lc (own := [("place", 2)]) (g := gName 2) (by rfl) sc.nd (pi_range3 (by rfl) n_range (pa_cons (pe_op op_sub (pv 1) pe_int) (pa_cons (pe_un un_neg pe_int) (pa_cons (pe_un un_neg pe_int) pa_nil)))) (blkOk_by (own := [("place", 2)]) (N := ["number", "many", "place"]) (sc := defScope s_number_bits) (by decide +kernel)) (fun _ _ _ _ _ => (pg_name (i := 2) sc.nd rfl (Or.inl rfl))) (fun _ _ _ _ _ => pts_nil) (fun _ _ _ _ _ => (pe_op op_and (pe_op op_shr (pv 0) (pv 2)) pe_int)))))), ?_⟩
    refine ⟨_, rfl, _, _, rfl, rfl, _, rfl, ite2 (fun e => ?_) (fun e1 => ?_)⟩
    · have e : mm < 0 := of_decide_eq_true e
      exact mk_inner0 (fun H3 d s3 nd ed => qn (.inl e) H3 d s3 nd ed)
    have e1 : ¬ mm < 0 := fun h => e1 (decide_eq_true h)
    refine ⟨_, rfl, _, _, rfl, rfl, _, rfl, ite2 (fun e => ?_) (fun e2 => ?_)⟩
    · have e : 64 < mm := of_decide_eq_true e
      exact mk_inner0 (fun H3 d s3 nd ed => qn (.inr (.inl e)) H3 d s3 nd ed)
    have e2 : ¬ 64 < mm := fun h => e2 (decide_eq_true h)
    refine ⟨_, rfl, _, _, rfl, rfl, _, rfl, ite2 (fun e => ?_) (fun e3 => ?_)⟩
    · have e : n < 0 := of_decide_eq_true e
      exact mk_inner0 (fun H3 d s3 nd ed => qn (.inr (.inr (.inl e))) H3 d s3 nd ed)
    have e3 : ¬ n < 0 := fun h => e3 (decide_eq_true h)
    obtain ⟨m, rfl⟩ : ∃ m : Nat, mm = (m : Int) := ⟨mm.toNat, by omega⟩
    refine ⟨_, rfl, _, rfl, _, _, rfl, rfl, by omega, rfl, _, rfl, ite2 (fun e => ?_) (fun e4 => ?_)⟩
    · have e : (!decide (V.int (n / 2 ^ (m : Int).toNat) = V.int 0)) = true := e
      have e5 : 2 ^ (m : Int).toNat ≤ n := by
        rcases Int.lt_or_le n (2 ^ (m : Int).toNat) with h | h
        · exfalso
          rw [Int.ediv_eq_zero_of_lt (by omega) h] at e
          exact absurd e (by decide)
        · exact h
      exact mk_inner0 (fun H3 d s3 nd ed => qn (.inr (.inr (.inr e5))) H3 d s3 nd ed)
    have e4 : ¬ (!decide (V.int (n / 2 ^ (m : Int).toNat) = V.int 0)) = true := e4
    have hn1 : n < 2 ^ m := by
      refine lt_of_div ?_
      rw [Int.toNat_natCast] at e4
      by_cases z : n / 2 ^ m = 0
      · exact z
      · exfalso
        refine e4 ?_
        rw [decide_eq_false (fun y => z (V.int.inj y))]
        rfl
    have hn0 : 0 ≤ n := by omega
    have hm : m ≤ 64 := by omega
    have q := q' m rfl hm hn0 hn1
    refine ⟨_, rfl, _, _, rfl, rfl, 1, rfl, 1, rfl, (m : Int) - 1, -1, -1, ((m : Int) - 1 - -1).toNat, rfl, RgC.neg (by omega) (by omega) (by decide) (by decide), fun D nD => ?_⟩
    rw [show ((m : Int) - 1 - -1).toNat = m by omega]
    refine lc_rngC (fun i H' => Same H H' ∧ H' D = some (.lst (((wr m n).take i).map V.int))) ⟨same_upd nD, upd_same⟩ ?_ ?_
    · rintro i H' hi ⟨sm, eD⟩
      refine ⟨rfl, tYes_by (iteT ?_)⟩
      have ep : (m : Int) - 1 + (i : Int) * -1 = ((m - 1 - i : Nat) : Int) := by omega
      refine ⟨_, rfl, _, rfl, _, _, rfl, rfl, by omega, _, _, rfl, rfl, _, eD, ?_, same_mut sm nD, ?_⟩
      · rw [List.length_map, List.length_take, wr_len]
        exact sz4l (by omega)
      · rw [upd_same, take_more (wr_get m n i hi), List.map_append]
        have e1 : Builtin.bitAnd (n / 2 ^ ((m : Int) - 1 + (i : Int) * -1).toNat) 1 = n / 2 ^ (m - 1 - i) % 2 := by
          rw [ep, Int.toNat_natCast]
          have h1 : 0 ≤ n / 2 ^ (m - 1 - i) := Int.ediv_nonneg hn0 (Int.pow_nonneg (by decide))
          have := _root_.Bits.bitAnd_mask (x := n / 2 ^ (m - 1 - i)) 1 h1
          exact this
        show _ = some (HO.lst (_ ++ [V.int _]))
        rw [← e1]
    · rintro H' ⟨sm, eD⟩
      rw [List.take_of_length_le (by rw [wr_len]; exact Nat.le_refl _)] at eD
      exact q H' D sm nD eD
theorem sc_bits_number : FnScope ["bits", "number", "bit"] ["bits"] (defScope s_bits_number) := ⟨rfl, rfl, rfl, by decide +kernel, rfl, by decide +kernel, by decide +kernel⟩
def spBnX (K : PySem.W.Frag) (cB cN : Addr) : Sp := fun vs H Q E => ∃ (a : Addr) (ns : List Int), vs = [.ref a] ∧ SqL K H a (ns.map V.int) ∧ ns.length ≤ 10000 ∧
  (Bits ns → ns.length ≤ 64 → ∀ H', Same H H' → Q (.int (bn ns)) H') ∧
  (Bits ns → 64 < ns.length → ∀ H' d, Same H H' → H d = none → H' d = some (.xd [(("word" : Str), .str "BadCount")]) → E (.ref cN) (some d) H') ∧
  (∀ (i : Nat) (z : Int), ns[i]? = some z → ¬ isB z → Bits (ns.take i) → ∀ H' d, Same H H' → H d = none → H' d = some (.xd [(("at" : Str), .int (i : Int)), (("word" : Str), .str "BadBit")]) → E (.ref cB) (some d) H')
theorem ok_bits_number {f cB cN : Addr} {fd : FuncData} {k : Nat} {tM : Tok} (F : Fun K "bits_number" "bits_number" s_bits_number f fd) (n_len : mg "len" = none) (g_MOST_BITS : mg "MOST_BITS" = some (.int 64 tM)) (x_BadCount : XcOk P w K mg base k "BadCount" cN (spIni0 K cN "BadCount")) (c_check_bits : CalX P w K mg base (k + 1) "check_bits" ["bits"] (spCheckX K cB)) : FnOk P w K mg base (L2.CX P w) (k + 2) f fd ["bits"] (spBnX K cB cN) := by
  have sc := sc_bits_number
  refine F.okX sc (fun vs H Q E h => ?_) (fun cdv A outer s H vs Q E hr h => ?_)
  · obtain ⟨a, ns, rfl, _⟩ := h
    rfl
  · obtain ⟨a, ns, rfl, hS, hl, q, qn, qb⟩ := h
    refine ⟨_, (pss_cons (ps_expr (pe_callP c_check_bits hr (passes_call (takes_of rfl rfl rfl rfl) (fun _ _ _ _ h => h)) (by rfl) (pa_cons (pv 0) pa_nil)))
 (pss_cons (ps_if (pt_cmpR op_gt (pe_callB (call_lenK K rfl) (by rfl) n_len PySem.boot_len (pa_cons (pv 0) pa_nil)) (pe_glob (v := .int 64) (by rfl) g_MOST_BITS ⟨_, rfl⟩) (nomark _))
  (pss_one (ps_raise rfl (takes_of rfl rfl rfl rfl) (pmk_c0 x_BadCount hr (by rfl))))
  pss_nil)
 (pss_cons (ps_set (i := 1) sc.nd rfl (.inl rfl) pe_int)
 (pss_cons (ps_for (passes_of rfl) rfl (pi_listK K rfl (pv 0)) (pg_name (i := 2) sc.nd rfl (.inl rfl))
  (pss_one (ps_set (i := 1) sc.nd rfl (.inl rfl) (pe_op op_add (pe_op op_mul pe_int (pv 1)) (pv 2)))))
 (pss_one (ps_ret (pv 1))))))), ?_⟩
    refine ⟨_, rfl, a, ns, rfl, hS, by omega, fun hB H1 s1 => ?_, qb⟩
    refine ⟨_, rfl, a, _, rfl, .inl (s1.seq hS), _, _, rfl, rfl, _, rfl, ite2 (fun e => ?_) (fun e => ?_)⟩
    · have e : (64 : Int) < ((ns.map V.int).length : Int) := of_decide_eq_true e
      rw [List.length_map] at e
      exact mk_inner0 (fun H3 d s3 nd ed => qn hB (by omega) H3 d (s1.trans s3) (s1.free nd) ed)
    have e : ¬ (64 : Int) < ((ns.map V.int).length : Int) := fun h => e (decide_eq_true h)
    rw [List.length_map] at e
    refine ⟨_, rfl, a, rfl, ⟨_, s1.seq hS⟩, for_list (K := K) (a := a) (xs := ns.map V.int) (fun i σ H' => ∃ y, σ = [some (.ref a), some (.int (bn (ns.take i))), y] ∧ H' = H1) ⟨none, rfl, rfl⟩ (fun i σ H' _ h => ?_) ?_ ?_⟩
    · obtain ⟨_, _, rfl⟩ := h
      exact s1.seq hS
    · rintro i x σ H' hx ⟨y, rfl, rfl⟩
      obtain ⟨z, hz, rfl⟩ := getI hx
      refine ⟨_, rfl, _, _, rfl, rfl, .inl ⟨by decide, by decide⟩, _, rfl, _, _, rfl, rfl, some (.int z), ?_, rfl⟩
      rw [bn_more hz]
      rfl
    · rintro σ H' ⟨y, rfl, rfl⟩
      rw [List.length_map, List.take_length]
      exact ⟨_, rfl, q hB (by omega) _ s1⟩
theorem fits {i : Int} (h0 : 0 ≤ i) (h1 : i ≤ 200000) : Builtin.Range.rangeFitsLong i = true := by
  unfold Builtin.Range.rangeFitsLong
  rw [Bool.and_eq_true]
  exact ⟨decide_eq_true (by omega), decide_eq_true (by omega)⟩
theorem rgc_up {a l c : Int} {n : Nat} (ha : 0 ≤ a) (ha1 : a ≤ l) (hl : l ≤ 100000) (hc : 0 < c) (hc1 : c ≤ 1000) (hn : l - a = c * (n : Int)) (hn1 : (n : Int) ≤ 100000) : RgC a l c n := by
  have hs : Builtin.Range.rangeSize a l c = if a < l then (l - a - 1) / c + 1 else 0 := by
    unfold Builtin.Range.rangeSize
    rw [if_pos hc]
  have hz : Builtin.Range.rangeSize a l c = n := by
    rw [hs]
    by_cases z : n = 0
    · subst z
      rw [if_neg (by omega)]
      rfl
    · have hpos : a < l := by
        have : 0 < c * (n : Int) := Int.mul_pos hc (by omega)
        omega
      rw [if_pos hpos, hn]
      have : (c * (n : Int) - 1) / c = (n : Int) - 1 := by
        rw [show c * (n : Int) - 1 = c * ((n : Int) - 1) + (c - 1) by rw [Int.mul_sub]; omega, Int.add_ediv_of_dvd_left (Int.dvd_mul_right _ _), Int.mul_ediv_cancel_left _ (by omega), Int.ediv_eq_zero_of_lt (by omega) (by omega)]
        omega
      rw [this]
      omega
  refine ⟨by omega, by omega, ?_, hz⟩
  unfold Builtin.Range.small
  rw [fits ha (by omega), fits (i := l) (by omega) (by omega), fits (i := c) (by omega) (by omega), hz, fits (i := (n : Int)) (by omega) (by omega), if_pos hc, fits (i := l + (c - 1)) (by omega) (by omega), Bool.or_true]
  rfl
theorem sc_numbers_behind_first : FnScope ["bits", "many", "at"] ["bits", "many"] (defScope s_numbers_behind_first) := ⟨rfl, rfl, rfl, by decide +kernel, rfl, by decide +kernel, by decide +kernel⟩
/-- the numbers of n bits each behind the first bit -/
def byN (n : Nat) (bs : List Int) (c : Nat) : List Int := (List.range c).map fun i => bn ((bs.drop (1 + n * i)).take n)
def spNBF (K : PySem.W.Frag) (cF : Addr) : Sp := fun vs H Q E => ∃ (a : Addr) (bs : List Int) (n : Nat), vs = [.ref a, .int (n : Int)] ∧ SqL K H a (bs.map V.int) ∧ Bits bs ∧ 1 ≤ bs.length ∧ bs.length ≤ 10000 ∧ 0 < n ∧ n ≤ 64 ∧
  (∀ c : Nat, bs.length = 1 + n * c → ∀ (H' : Hp) (p : Addr), Same H H' → H p = none → H' p = some (.lst ((byN n bs c).map V.int)) → Q (.ref p) H') ∧
  ((bs.length - 1) % n ≠ 0 → ∀ H' d, Same H H' → H d = none → H' d = some (.xd [(("at" : Str), .int (bs.length : Int)), (("word" : Str), .str "BadFrame")]) → E (.ref cF) (some d) H')
theorem ok_numbers_behind_first {f cF cB cN : Addr} {fd : FuncData} {k : Nat} (F : Fun K "numbers_behind_first" "numbers_behind_first" s_numbers_behind_first f fd) (n_len : mg "len" = none) (n_range : mg "range" = none) (x_BadFrame : XcOk P w K mg base k "BadFrame" cF (spIni K cF "BadFrame" "at")) (c_bits_number : CalX P w K mg base (k + 1) "bits_number" ["bits"] (spBnX K cB cN)) : FnOk P w K mg base (L2.CX P w) (k + 2) f fd ["bits", "many"] (spNBF K cF) := by
  have sc := sc_numbers_behind_first
  refine F.okX sc (fun vs H Q E h => ?_) (fun cdv A outer s H vs Q E hr h => ?_)
  · obtain ⟨a, bs, n, rfl, _⟩ := h
    rfl
  · obtain ⟨a, bs, n, rfl, hS, hB, h1, hl, hn0, hn1, q, qe⟩ := h
    refine ⟨_, (pss_cons (ps_if (pt_cmpR op_ne (pe_op op_mod (pe_op op_sub (pe_callB (call_lenK K rfl) (by rfl) n_len PySem.boot_len (pa_cons (pv 0) pa_nil)) pe_int) (pv 1)) pe_int (nomark _))
  (pss_one (ps_raise rfl (takes_of rfl rfl rfl rfl) (pmk_c x_BadFrame hr (by rfl) (pa_cons (pe_callB (call_lenK K rfl) (by rfl) n_len PySem.boot_len (pa_cons (pv 0) pa_nil)) pa_nil))))
  pss_nil)
 (pss_one (ps_ret (pe_lc (own := [("at", 2)]) (g := gName 2) (by rfl) sc.nd (pi_range3 (by rfl) n_range (pa_cons pe_int (pa_cons (pe_callB (call_lenK K rfl) (by rfl) n_len PySem.boot_len (pa_cons (pv 0) pa_nil)) (pa_cons (pv 1) pa_nil)))) (blkOk_by (own := [("at", 2)]) (N := ["bits", "many", "at"]) (sc := defScope s_numbers_behind_first) (by decide +kernel)) (fun _ _ _ _ _ => (pg_name (i := 2) sc.nd rfl (Or.inl rfl))) (fun _ _ _ _ _ => pts_nil) (fun _ _ _ _ _ => (pe_callF c_bits_number hr (by rfl) (pa_cons (pe_slice (sl_listK K rfl) (pv 0) (po_some (pv 2)) (po_some (pe_op op_add (pv 2) (pv 1)))) pa_nil))))))), ?_⟩
    have em : (((bs.map V.int).length : Int) - 1) % (n : Int) = (((bs.length - 1) % n : Nat) : Int) := by
      rw [List.length_map, Int.natCast_emod]
      congr 1
      omega
    refine ⟨_, rfl, a, _, rfl, .inl hS, _, _, rfl, rfl, _, rfl, _, _, rfl, rfl, (by omega), rfl, _, rfl, ite2 (fun e => ?_) (fun e => ?_)⟩
    · have ne : (bs.length - 1) % n ≠ 0 := by
        intro z
        have e : (!decide (V.int ((((bs.map V.int).length : Int) - 1) % (n : Int)) = V.int 0)) = true := e
        rw [em, z] at e
        exact absurd e (by decide)
      refine ⟨_, rfl, a, _, rfl, .inl hS, ?_⟩
      rw [List.length_map]
      exact mk_inner (log_le (by omega)) (fun H3 d s3 nd ed => qe ne H3 d s3 nd ed)
    · have z8 : (bs.length - 1) % n = 0 := by
        have e : ¬ (!decide (V.int ((((bs.map V.int).length : Int) - 1) % (n : Int)) = V.int 0)) = true := e
        rw [em] at e
        by_cases z : (bs.length - 1) % n = 0
        · exact z
        · exfalso
          refine e ?_
          rw [decide_eq_false (fun y => z (by have := V.int.inj y; omega))]
          rfl
      obtain ⟨c, hc⟩ : ∃ c, bs.length = 1 + n * c := ⟨(bs.length - 1) / n, by have := Nat.div_add_mod (bs.length - 1) n; omega⟩
      have hcl : c ≤ bs.length := by
        have : c ≤ n * c := Nat.le_mul_of_pos_left c hn0
        omega
      refine ⟨_, rfl, a, _, rfl, .inl hS, _, rfl, 1, _, (n : Int), c, rfl, rgc_up (by decide) ?_ ?_ (by omega) (by omega) ?_ (by omega), fun D nD => ?_⟩
      · rw [List.length_map]; omega
      · rw [List.length_map]; omega
      · rw [List.length_map, hc]
        push_cast
        omega
      refine lc_rngC (fun i H' => Same H H' ∧ H' D = some (.lst ((byN n bs i).map V.int))) ⟨same_upd nD, upd_same⟩ ?_ ?_
      · rintro i H' hi ⟨sm, eD⟩
        refine ⟨rfl, tYes_by (iteT ?_)⟩
        have ei : (1 : Int) + (i : Int) * (n : Int) = ((1 + n * i : Nat) : Int) := by
          push_cast
          rw [Int.mul_comm]
        refine ⟨_, rfl, _, rfl, _, rfl, _, rfl, _, rfl, _, _, rfl, rfl, _, rfl, a, _, rfl, sm.seq hS, fun p2 n2 => ?_⟩
        have ec : cutV (bs.map V.int) (some ((1 : Int) + (i : Int) * (n : Int))) (some ((1 : Int) + (i : Int) * (n : Int) + (n : Int))) = ((bs.drop (1 + n * i)).take n).map V.int := by
          rw [ei, show ((1 + n * i : Nat) : Int) + (n : Int) = ((1 + n * i + n : Nat) : Int) by omega, cut_mid _ _ _ (by omega), Nat.add_sub_cancel_left, List.map_take, List.map_drop]
        rw [ec]
        have s2 := sm.trans (same_upd (o := .lst (((bs.drop (1 + n * i)).take n).map V.int)) n2)
        refine ⟨p2, (bs.drop (1 + n * i)).take n, rfl, SqL.of upd_same, by rw [List.length_take]; omega, (fun _ _ H3 s3 => ?_), (fun _ h => absurd h (by rw [List.length_take]; omega)), (fun j z hz nz => absurd (bits_take (bits_drop hB _) _ z (List.mem_of_getElem? hz)) nz)⟩
        refine ⟨_, s3 _ _ (same_upd n2 _ _ eD), ?_, same_mut (s2.trans s3) nD, ?_⟩
        · unfold byN
          rw [List.length_map, List.length_map, List.length_range]
          exact sz4l (by omega)
        · rw [upd_same]
          unfold byN
          rw [List.range_succ, List.map_append, List.map_append]
          rfl
      · rintro H' ⟨sm, eD⟩
        exact q c hc H' D sm nD eD
theorem at_last {xs : List V} {v : V} {n : Nat} (hl : xs.length = n + 1) (h : xs[n]? = some v) : atI xs (-1) = some v := by
  have e : ixN (n + 1) (-1) = some n := by
    unfold ixN
    rw [if_neg (by omega), if_pos (by omega)]
    congr 1
    omega
  unfold atI
  rw [hl, e]
  exact h
theorem sc_Book___init__ : FnScope ["self"] ["self"] (defScope m_Book___init__) := ⟨rfl, rfl, rfl, by decide +kernel, rfl, by decide +kernel, by decide +kernel⟩
theorem ok_Book___init__ {f C : Addr} {fd : FuncData} {k : Nat} (F : Fun K "__init__" "Book.__init__" m_Book___init__ f fd) (R : BkC K C) : FnOk P w K mg base CX0 (k + 1) f fd ["self"] (spBkI C) := by
  have sc := sc_Book___init__
  refine F.ok sc (fun vs H Q E h => ?_) (fun cdv A outer s H vs Q E hr h => ?_)
  · obtain ⟨r, dx, rfl, _⟩ := h
    rfl
  · obtain ⟨r, dx, rfl, hr_, q⟩ := h
    refine ⟨_, (pss_one (ps_fldK K rfl (pv 0) (pe_lst pa_nil))), ?_⟩
    refine ⟨Nat.zero_le _, fun l nl => ⟨_, rfl, r, C, dx, _, rfl, same_upd nl _ _ hr_, R.cls, R.nw, (by show 0 < 1000; decide), ?_⟩⟩
    refine q _ l ((MvF.of (same_upd nl)).upd (.head _)) nl ⟨⟨dx, upd_same⟩, ?_⟩
    rw [upd_ne (ne_of_none hr_ nl).symm, upd_same]
    rfl
theorem sc_Book_shorten : FnScope ["self", "row", "words", "codes", "ahead", "at", "word"] ["self", "row"] (defScope m_Book_shorten) := ⟨rfl, rfl, rfl, by decide +kernel, rfl, by decide +kernel, by decide +kernel⟩
theorem ok_Book_shorten {f C cY cL : Addr} {fd : FuncData} {k : Nat} {t6 : Tok} (F : Fun K "shorten" "Book.shorten" m_Book_shorten f fd) (R : BkC K C) (n_len : mg "len" = none) (g_LONGEST_ROW : mg "LONGEST_ROW" = some (.int 60 t6)) (x_TooLong : XcOk P w K mg base k "TooLong" cL (spIni K cL "TooLong" "most"))
    (c_check_bytes : CalX P w K mg base (k + 1) "check_bytes" ["row"] (spCheckY K cY)) (c_words_at_beginning : Cal P w K mg base (k + 1) "words_at_beginning" ["words"] (spWAB K)) (c_longest_code : Cal P w K mg base (k + 1) "longest_code" ["words", "row", "at"] (spLC K)) (c_word_of : Cal P w K mg base (k + 1) "word_of" ["words", "code"] (spWO K)) (c_learn : Cal P w K mg base (k + 1) "learn" ["words", "ahead", "word"] (spLearn K)) :
    FnOk P w K mg base (L2.CX P w) (k + 2) f fd ["self", "row"] (spShort K C cY cL) := by
  have sc := sc_Book_shorten
  refine F.okX sc (fun vs H Q E h => ?_) (fun cdv A outer s H vs Q E hr h => ?_)
  · obtain ⟨r, l, a, P, ns, rfl, _⟩ := h
    rfl
  · obtain ⟨r, l, a, P, ns, rfl, ⟨⟨dx, hins⟩, hmem⟩, ht, h61, hS, hl, q, ql, qy⟩ := h
    refine ⟨_, (pss_cons (ps_expr (pe_callP c_check_bytes hr (passes_call (takes_of rfl rfl rfl rfl) (fun _ _ _ _ h => h)) (by rfl) (pa_cons (pv 1) pa_nil)))
 (pss_cons (ps_if (pt_cmpR op_gt (pe_callB (call_lenK K rfl) (by rfl) n_len PySem.boot_len (pa_cons (pv 1) pa_nil)) (pe_glob (v := .int 60) (by rfl) g_LONGEST_ROW ⟨_, rfl⟩) (nomark _))
  (pss_one (ps_raise rfl (takes_of rfl rfl rfl rfl) (pmk_c x_TooLong hr (by rfl) (pa_cons (pe_glob (v := .int 60) (by rfl) g_LONGEST_ROW ⟨_, rfl⟩) pa_nil))))
  pss_nil)
 (pss_cons (ps_set (i := 2) sc.nd rfl (.inl rfl) (pe_callC c_words_at_beginning hr (by rfl) (pa_cons (pe_fldK K rfl (pv 0)) pa_nil)))
 (pss_cons (ps_set (i := 3) sc.nd rfl (.inl rfl) (pe_lst pa_nil))
 (pss_cons (ps_set (i := 4) sc.nd rfl (.inl rfl) (pe_tup pa_nil))
 (pss_cons (ps_set (i := 5) sc.nd rfl (.inl rfl) pe_int)
 (pss_cons (ps_while (passes_of rfl) (pt_cmpR op_lt (pv 5) (pe_callB (call_lenK K rfl) (by rfl) n_len PySem.boot_len (pa_cons (pv 1) pa_nil)) (nomark _))
  (pss_cons (ps_expr (pe_bmK K rfl PySem.F.plainAttrs_list PySem.F.slot_list_append PySem.F.type_list_append mt_append (pv 3) (pa_cons (pe_callC c_longest_code hr (by rfl) (pa_cons (pv 2) (pa_cons (pv 1) (pa_cons (pv 5) pa_nil)))) pa_nil)))
 (pss_cons (ps_set (i := 6) sc.nd rfl (.inl rfl) (pe_callC c_word_of hr (by rfl) (pa_cons (pv 2) (pa_cons (pe_ix (ix_listK K rfl) (pv 3) (pe_un un_neg pe_int) (fun _ _ => rfl)) pa_nil))))
 (pss_cons (ps_expr (pe_callC c_learn hr (by rfl) (pa_cons (pv 2) (pa_cons (pv 4) (pa_cons (pv 6) pa_nil)))))
 (pss_cons (ps_set (i := 4) sc.nd rfl (.inl rfl) (pv 6))
 (pss_one (ps_aug (i := 5) sc.nd rfl (.inl rfl) (pe_callB (call_lenK K rfl) (by rfl) n_len PySem.boot_len (pa_cons (pv 6) pa_nil)) ip_add)))))))
 (pss_cons (ps_fldK K rfl (pv 0) (pv 2))
 (pss_one (ps_ret (pv 3))))))))))), ?_⟩
    refine ⟨_, rfl, a, ns, rfl, hS, by omega, fun hB H1 s1 => ?_, qy⟩
    refine ⟨_, rfl, a, _, rfl, .inl (s1.seq hS), _, _, rfl, rfl, _, rfl, ite2 (fun e => ?_) (fun e => ?_)⟩
    · have e : 60 < ns.length := by
        have := of_decide_eq_true e
        rw [List.length_map] at this
        omega
      exact mk_inner (i := 60) (log_le (n := 60) (by decide)) (fun H3 d s3 nd ed => ql hB e H3 d (s1.trans s3) (s1.free nd) ed)
    have e : ns.length ≤ 60 := by
      have : ¬ (60 : Int) < ((ns.map V.int).length : Int) := fun z => e (decide_eq_true z)
      rw [List.length_map] at this
      omega
    have q := q hB e
    clear ql qy
    refine ⟨_, rfl, r, C, dx, _, _, rfl, s1 _ _ hins, R.cls, R.nw, rfl, l, _, rfl, SqL.of (s1 _ _ hmem), fun lw nw => ?_⟩
    -- the words as the row begins
    obtain ⟨P0, eP0, hP0⟩ : ∃ P0 : List WP, (if (refsW P).length < 44 then refsW P else []) = refsW P0 ∧ wsOf P0 = bkBegun (wsOf P) ∧ ∀ p ∈ P0, p ∈ P := by
      by_cases z : P.length < 44
      · exact ⟨P, by rw [if_pos (by rw [List.length_map]; exact z)], by unfold bkBegun; rw [if_pos (by rw [wsOf_len]; exact z)], fun p hp => hp⟩
      · exact ⟨[], by rw [if_neg (by rw [List.length_map]; exact z)]; rfl, by unfold bkBegun; rw [if_neg (by rw [wsOf_len]; exact z)]; rfl, fun p hp => absurd hp List.not_mem_nil⟩
    rw [eP0]
    have s2 := s1.trans (same_upd (o := .lst (refsW P0)) nw)
    have ew : upd H1 lw (.lst (refsW P0)) lw = some (.lst (refsW P0)) := upd_same
    have nw0 : H lw = none := s1.free nw
    generalize upd H1 lw (.lst (refsW P0)) = H2 at s2 ew ⊢
    refine name_by ?_
    dsimp only
    refine ⟨Nat.zero_le _, fun lc nc => ?_⟩
    have s3 := s2.trans (same_upd (o := .lst []) nc)
    have ew3 := same_upd (o := .lst []) nc _ _ ew
    have ec3 : upd H2 lc (.lst []) lc = some (.lst (([] : List Int).map V.int)) := upd_same
    have nwc : lw ≠ lc := ne_of_none ew nc
    have nc0 : H lc = none := s2.free nc
    generalize upd H2 lc (.lst []) = H3 at s3 ew3 ec3 ⊢
    refine name_by ?_
    dsimp only
    refine ⟨Nat.zero_le _, fun ta na => ?_⟩
    have s4 := s3.trans (same_upd (o := .tup []) na)
    have ew4 := same_upd (o := .tup []) na _ _ ew3
    have ec4 := same_upd (o := .tup []) na _ _ ec3
    have ha4 : SqT K (upd H3 ta (.tup [])) ta (([] : List Int).map V.int) := SqT.of upd_same
    generalize upd H3 ta (.tup []) = H4 at s4 ew4 ec4 ha4 ⊢
    refine name_by ?_
    dsimp only
    refine const_by ?_
    clear ew ew3 ec3 s2 s3
    have ht0 : TF K (knW P0) H4 := fun p hp => by
      obtain ⟨x, hx, rfl⟩ := List.mem_map.mp hp
      exact same_t s4 (ht (twW x) (List.mem_map.mpr ⟨x, hP0.2 x hx, rfl⟩))
    refine seq_by (J := fun σ1 H1 => ∃ (P' : List WP) (ta : Addr) (y5 y6 : Option V), σ1 = [some (.ref r), some (.ref a), some (.ref lw), some (.ref lc), some (.ref ta), y5, y6] ∧ Same H H1 ∧ H1 lw = some (.lst (refsW P')) ∧ TF K (knW P') H1 ∧ wsOf P' = (bkShort (wsOf P) ns).2 ∧ H1 lc = some (.lst ((bkShort (wsOf P) ns).1.map V.int))) ?_ (fun rest => ?_)
    · rintro σ1 H5 ⟨P', ta', y5, y6, rfl, s5, ew5, ht5, e5, ec5⟩
      have e6 := s5 _ _ hins
      refine ⟨_, rfl, _, rfl, r, C, dx, _, rfl, e6, R.cls, R.nw, (by show 1 < 1000; decide), ?_⟩
      have ep : putF "words" (.ref lw) (bkF l) = bkF lw := rfl
      rw [ep]
      have nwr : lw ≠ r := (ne_of_none hins nw0).symm
      have ncr : lc ≠ r := (ne_of_none hins nc0).symm
      refine ⟨_, rfl, q _ lw lc P' ((MvF.of s5).upd (.head _)) nw0 nc0 nwc.symm ⟨⟨dx, upd_same⟩, by rw [upd_ne nwr]; exact ew5⟩ (fun p hp => sqT_updI e6 (ht5 p hp)) e5 (by rw [upd_ne ncr]; exact ec5)⟩
    · refine while_w (fun σ H' => ∃ (i : Nat) (P' : List WP) (cs av : List Int) (ta : Addr) (y6 : Option V), σ = [some (.ref r), some (.ref a), some (.ref lw), some (.ref lc), some (.ref ta), some (.int (i : Int)), y6] ∧ Same H H' ∧ H' lw = some (.lst (refsW P')) ∧ TF K (knW P') H' ∧ W61 (wsOf P') ∧ H' lc = some (.lst (cs.map V.int)) ∧ SqT K H' ta (av.map V.int) ∧ av.length ≤ 60 ∧ i ≤ ns.length ∧ cs.length ≤ i ∧ bkShort (wsOf P) ns = (cs ++ (bkGo (wsOf P') av (ns.drop i)).1, (bkGo (wsOf P') av (ns.drop i)).2)) (fun σ _ => match σ with | [_, _, _, _, _, some (.int n), _] => ns.length - n.toNat | _ => 0)
        ⟨0, P0, [], [], ta, none, rfl, s4, ew4, ht0, (by rw [hP0.1]; exact w61_begun h61), ec4, ha4, Nat.zero_le _, Nat.zero_le _, Nat.le_refl _, (by rw [hP0.1]; rfl)⟩ ?_
      clear ew4 ec4 ha4 ht0 s4
      rintro σ H5 ⟨i, P', cs, av, ta, y6, rfl, s5, ew5, ht5, h615, ec5, ha5, hav, hi, hcs, eq5⟩
      refine ⟨_, rfl, _, rfl, a, _, rfl, .inl (s5.seq hS), _, _, rfl, rfl, _, rfl, ite2 (fun e2 => ?_) (fun e2 => ?_)⟩
      · have e2 : i < ns.length := by
          have := of_decide_eq_true e2
          rw [List.length_map] at this
          omega
        have hne : ns.drop i ≠ [] := fun z => by
          have := congrArg List.length z
          rw [List.length_drop] at this
          have : ns.length - i = 0 := this
          omega
        have hYd : ∀ z ∈ ns.drop i, 0 ≤ z ∧ z < 256 := fun z hz => hB z (List.mem_of_mem_drop hz)
        obtain ⟨⟨hc0, hc1⟩, hw⟩ := bk_code_word (ws := wsOf P') hne hYd
        have hsz := bkSize_pos (ns.drop i) (wsOf P')
        have hszl := (bk_is hne (wsOf P')).hi
        rw [List.length_drop] at hszl
        refine ⟨wN _ _ _, wN_ok, ?_⟩
        refine ⟨_, rfl, .inl ⟨rfl, _, SqL.of ec5⟩, _, rfl, _, rfl, _, rfl, lw, a, i, P', ns, rfl, SqL.of ew5, ht5, s5.seq hS, e2, fun H6 s6 => ?_⟩
        refine ⟨lc, _, _, rfl, rfl, s6 _ _ ec5, ?_, ?_⟩
        · rw [List.length_map]
          exact sz4l (by omega)
        have m7 : MvF [lc] H6 (upd H6 lc (.lst (cs.map V.int ++ [.int (bkCode (ns.drop i) (wsOf P'))]))) := (MvF.refl _ _).upd (.head _)
        have nolc : ∀ b ∈ [lc], ∀ o, H6 b = some o → noT o := fun b hb o eo => by
          rw [in1 hb, s6 _ _ ec5] at eo
          cases eo
          trivial
        have ht7 := (ht5.same s6).mvf m7 nolc
        have ha7 := sqT_mvf m7 nolc (same_t s6 ha5)
        have s7 : Same H (upd H6 lc (.lst (cs.map V.int ++ [.int (bkCode (ns.drop i) (wsOf P'))]))) := same_mut (s5.trans s6) nc0
        have ew7 : upd H6 lc (.lst (cs.map V.int ++ [.int (bkCode (ns.drop i) (wsOf P'))])) lw = some (.lst (refsW P')) := by rw [upd_ne nwc]; exact s6 _ _ ew5
        have ec7 : upd H6 lc (.lst (cs.map V.int ++ [.int (bkCode (ns.drop i) (wsOf P'))])) lc = some (.lst ((cs ++ [bkCode (ns.drop i) (wsOf P')]).map V.int)) := by rw [upd_same, List.map_append]; rfl
        generalize upd H6 lc (.lst (cs.map V.int ++ [.int (bkCode (ns.drop i) (wsOf P'))])) = H7 at s7 ew7 ec7 ht7 ha7 ⊢
        clear ht5 ha5 ew5 ec5 m7 nolc
        have hlast : atI ((cs ++ [bkCode (ns.drop i) (wsOf P')]).map V.int) (-1) = some (.int (bkCode (ns.drop i) (wsOf P'))) := by
          exact at_last (n := cs.length) (by simp) (by simp)
        refine ⟨_, rfl, _, rfl, 1, rfl, lc, _, _, _, rfl, rfl, SqL.of ec7, hlast, ?_⟩
        refine ⟨lw, _, P', rfl, SqL.of ew7, ht7, hc0, (by rw [← wsOf_len]; exact hc1), fun H8 tu s8 htu => ?_⟩
        rw [hw] at htu
        refine name_by ?_
        dsimp only
        refine ⟨_, rfl, _, rfl, _, rfl, lw, ta, tu, P', av, (ns.drop i).take (bkSize (ns.drop i) (wsOf P')), rfl, s8 _ _ ew7, ht7.same s8, same_t s8 ha7, htu, by omega, (by have := h615.1; rw [wsOf_len] at this; omega), fun H9 P9 m9 ew9 ht9 e9 => ?_⟩
        have nolw : ∀ b ∈ [lw], ∀ o, H8 b = some o → noT o := fun b hb o eo => by
          rw [in1 hb, s8 _ _ ew7] at eo
          cases eo
          trivial
        have htu9 := sqT_mvf m9 nolw htu
        have s9 : Same H H9 := fun b o eb => m9.kp b o (fun z => ne_of_none eb nw0 (in1 z)) ((s7.trans s8) b o eb)
        have ec9 : H9 lc = some (.lst ((cs ++ [bkCode (ns.drop i) (wsOf P')]).map V.int)) := m9.kp _ _ (fun z => nwc (in1 z).symm) (s8 _ _ ec7)
        refine ⟨_, rfl, ?_⟩
        refine name_by ?_
        dsimp only
        refine ⟨_, rfl, _, rfl, tu, _, rfl, .inr htu9, _, _, rfl, rfl, ?_⟩
        have hlen : ((((ns.drop i).take (bkSize (ns.drop i) (wsOf P'))).map V.int).length : Int) = (bkSize (ns.drop i) (wsOf P') : Nat) := by
          rw [List.length_map, List.length_take, List.length_drop]
          omega
        refine ⟨⟨i + bkSize (ns.drop i) (wsOf P'), P9, cs ++ [bkCode (ns.drop i) (wsOf P')], (ns.drop i).take (bkSize (ns.drop i) (wsOf P')), tu, some (.ref tu), ?_, s9, ew9, ht9, (by rw [e9]; exact w61_learn h615 hav), ec9, htu9, (by rw [List.length_take, List.length_drop]; omega), by omega, (by rw [List.length_append]; show cs.length + 1 ≤ _; omega), ?_⟩, ?_⟩
        · dsimp only [List.set]
          rw [hlen]
          rfl
        · rw [eq5, bkGo_cons hne, e9, List.drop_drop, List.append_assoc]
          rfl
        · dsimp only [List.set]
          rw [hlen]
          show ns.length - ((i : Int) + (bkSize (ns.drop i) (wsOf P') : Nat)).toNat < ns.length - (i : Int).toNat
          omega
      · have e2 : i = ns.length := by
          have : ¬ (i : Int) < ((ns.map V.int).length : Int) := fun z => e2 (decide_eq_true z)
          rw [List.length_map] at this
          omega
        rw [e2, List.drop_length, bkGo_nil, List.append_nil] at eq5
        exact rest _ _ ⟨P', ta, _, _, rfl, s5, ew5, ht5, by rw [eq5], by rw [eq5]; exact ec5⟩
theorem sc_Book_lengthen : FnScope ["self", "codes", "words", "row", "ahead", "at", "code", "word"] ["self", "codes"] (defScope m_Book_lengthen) := ⟨rfl, rfl, rfl, by decide +kernel, rfl, by decide +kernel, by decide +kernel⟩
theorem bk_begun_at (P : List WP) : ∃ P0 : List WP, (if (refsW P).length < 44 then refsW P else []) = refsW P0 ∧ wsOf P0 = bkBegun (wsOf P) ∧ ∀ p ∈ P0, p ∈ P := by
  by_cases z : P.length < 44
  · exact ⟨P, by rw [if_pos (by rw [List.length_map]; exact z)], by unfold bkBegun; rw [if_pos (by rw [wsOf_len]; exact z)], fun p hp => hp⟩
  · exact ⟨[], by rw [if_neg (by rw [List.length_map]; exact z)]; rfl, by unfold bkBegun; rw [if_neg (by rw [wsOf_len]; exact z)]; rfl, fun p hp => absurd hp List.not_mem_nil⟩
theorem ok_Book_lengthen {f C cC : Addr} {fd : FuncData} {k : Nat} {t6 t7 : Tok} (F : Fun K "lengthen" "Book.lengthen" m_Book_lengthen f fd) (R : BkC K C) (n_len : mg "len" = none) (n_enumerate : mg "enumerate" = none) (g_BYTE_WORDS : mg "BYTE_WORDS" = some (.int 256 t7)) (g_LONGEST_ROW : mg "LONGEST_ROW" = some (.int 60 t6)) (x_BadCode : XcOk P w K mg base k "BadCode" cC (spIni K cC "BadCode" "at"))
    (c_words_at_beginning : Cal P w K mg base (k + 1) "words_at_beginning" ["words"] (spWAB K)) (c_word_of : Cal P w K mg base (k + 1) "word_of" ["words", "code"] (spWO K)) (c_learn : Cal P w K mg base (k + 1) "learn" ["words", "ahead", "word"] (spLearn K)) :
    FnOk P w K mg base (L2.CX P w) (k + 2) f fd ["self", "codes"] (spLong K C cC) := by
  have sc := sc_Book_lengthen
  refine F.okX sc (fun vs H Q E h => ?_) (fun cdv A outer s H vs Q E hr h => ?_)
  · obtain ⟨r, l, a, P, cs, rfl, _⟩ := h
    rfl
  · obtain ⟨r, l, a, P, cs, rfl, ⟨⟨dx, hins⟩, hmem⟩, ht, h61, hS, hl, q, qe⟩ := h
    refine ⟨_, (pss_cons (ps_set (i := 2) sc.nd rfl (.inl rfl) (pe_callC c_words_at_beginning hr (by rfl) (pa_cons (pe_fldK K rfl (pv 0)) pa_nil)))
 (pss_cons (ps_set (i := 3) sc.nd rfl (.inl rfl) (pe_lst pa_nil))
 (pss_cons (ps_set (i := 4) sc.nd rfl (.inl rfl) (pe_tup pa_nil))
 (pss_cons (ps_for (passes_of rfl) rfl (pi_enum (by rfl) n_enumerate (pa_cons (pv 1) pa_nil)) (pg_tup rfl (pgs_cons (pg_name (i := 5) sc.nd rfl (.inl rfl)) (pgs_cons (pg_name (i := 6) sc.nd rfl (.inl rfl)) pgs_nil)))
  (pss_cons (ps_if (PW.pt (pw_or (pt_cmpR op_lt (pv 6) pe_int (nomark _)) (pw_or1 (pt_cmpR op_ge (pv 6) (pe_op op_add (pe_glob (v := .int 256) (by rfl) g_BYTE_WORDS ⟨_, rfl⟩) (pe_callB (call_lenK K rfl) (by rfl) n_len PySem.boot_len (pa_cons (pv 2) pa_nil))) (nomark _)))))
  (pss_one (ps_raise rfl (takes_of rfl rfl rfl rfl) (pmk_c x_BadCode hr (by rfl) (pa_cons (pv 5) pa_nil))))
  pss_nil)
 (pss_cons (ps_set (i := 7) sc.nd rfl (.inl rfl) (pe_callC c_word_of hr (by rfl) (pa_cons (pv 2) (pa_cons (pv 6) pa_nil))))
 (pss_cons (ps_if (pt_cmpR op_gt (pe_op op_add (pe_callB (call_lenK K rfl) (by rfl) n_len PySem.boot_len (pa_cons (pv 3) pa_nil)) (pe_callB (call_lenK K rfl) (by rfl) n_len PySem.boot_len (pa_cons (pv 7) pa_nil))) (pe_glob (v := .int 60) (by rfl) g_LONGEST_ROW ⟨_, rfl⟩) (nomark _))
  (pss_one (ps_raise rfl (takes_of rfl rfl rfl rfl) (pmk_c x_BadCode hr (by rfl) (pa_cons (pv 5) pa_nil))))
  pss_nil)
 (pss_cons (ps_expr (pe_bmK K rfl PySem.F.plainAttrs_list PySem.F.slot_list_extend PySem.F.type_list_extend (mt_extendTK K rfl) (pv 3) (pa_cons (pv 7) pa_nil)))
 (pss_cons (ps_expr (pe_callC c_learn hr (by rfl) (pa_cons (pv 2) (pa_cons (pv 4) (pa_cons (pv 7) pa_nil)))))
 (pss_one (ps_set (i := 4) sc.nd rfl (.inl rfl) (pv 7)))))))))
 (pss_cons (ps_fldK K rfl (pv 0) (pv 2))
 (pss_one (ps_ret (pv 3)))))))), ?_⟩
    refine ⟨_, rfl, r, C, dx, _, _, rfl, hins, R.cls, R.nw, rfl, l, _, rfl, SqL.of hmem, fun lw nw => ?_⟩
    obtain ⟨P0, eP0, hP0⟩ := bk_begun_at P
    rw [eP0]
    have s2 := same_upd (o := .lst (refsW P0)) nw
    have ew : upd H lw (.lst (refsW P0)) lw = some (.lst (refsW P0)) := upd_same
    generalize upd H lw (.lst (refsW P0)) = H2 at s2 ew ⊢
    refine name_by ?_
    dsimp only
    refine ⟨Nat.zero_le _, fun lc nc => ?_⟩
    have s3 := s2.trans (same_upd (o := .lst []) nc)
    have ew3 := same_upd (o := .lst []) nc _ _ ew
    have ec3 : upd H2 lc (.lst []) lc = some (.lst (([] : List Int).map V.int)) := upd_same
    have nwc : lw ≠ lc := ne_of_none ew nc
    have nc0 : H lc = none := s2.free nc
    generalize upd H2 lc (.lst []) = H3 at s3 ew3 ec3 ⊢
    refine name_by ?_
    dsimp only
    refine ⟨Nat.zero_le _, fun ta na => ?_⟩
    have s4 := s3.trans (same_upd (o := .tup []) na)
    have ew4 := same_upd (o := .tup []) na _ _ ew3
    have ec4 := same_upd (o := .tup []) na _ _ ec3
    have ha4 : SqT K (upd H3 ta (.tup [])) ta (([] : List Int).map V.int) := SqT.of upd_same
    generalize upd H3 ta (.tup []) = H4 at s4 ew4 ec4 ha4 ⊢
    refine name_by ?_
    dsimp only
    clear ew ew3 ec3 s2 s3
    have ht0 : TF K (knW P0) H4 := fun p hp => by
      obtain ⟨x, hx, rfl⟩ := List.mem_map.mp hp
      exact same_t s4 (ht (twW x) (List.mem_map.mpr ⟨x, hP0.2 x hx, rfl⟩))
    refine ⟨_, rfl, a, _, rfl, s4.seq hS, for_enumK (xs := cs.map V.int) (fun j σ H' => ∃ (P' : List WP) (av fv : List Int) (ta : Addr) (y5 y6 y7 : Option V), σ = [some (.ref r), some (.ref a), some (.ref lw), some (.ref lc), some (.ref ta), y5, y6, y7] ∧ Same H H' ∧ H' lw = some (.lst (refsW P')) ∧ TF K (knW P') H' ∧ W61 (wsOf P') ∧ H' lc = some (.lst (fv.map V.int)) ∧ SqT K H' ta (av.map V.int) ∧ av.length ≤ 60 ∧ fv.length ≤ 60 ∧ bkLong (wsOf P) cs = bkLen (wsOf P') av fv j (cs.drop j))
      ⟨P0, [], [], ta, none, none, none, rfl, s4, ew4, ht0, (by rw [hP0.1]; exact w61_begun h61), ec4, ha4, Nat.zero_le _, Nat.zero_le _, (by rw [hP0.1]; rfl)⟩ (fun j σ H' _ h => ?_) ?_ ?_⟩
    · obtain ⟨_, _, _, _, _, _, _, _, sm, _⟩ := h
      exact sm.seq hS
    · clear ew4 ec4 ha4 ht0 s4
      rintro j x T σ H5 hx ⟨P', av, fv, ta, y5, y6, y7, rfl, s5, ew5, ht5, h615, ec5, ha5, hav, hfv, eq5⟩ nT
      obtain ⟨c, hc, rfl⟩ := getI hx
      have hjl : j < cs.length := (List.getElem?_eq_some_iff.mp hc).1
      have ed : cs.drop j = c :: cs.drop (j + 1) := by
        rw [List.drop_eq_getElem_cons hjl]
        congr 1
        exact Option.some.inj ((List.getElem?_eq_getElem hjl).symm.trans hc)
      rw [ed] at eq5
      unfold bkLen at eq5
      have s6 := s5.trans (same_upd (o := .tup [.int (j : Nat), .int c]) nT)
      have t6 := same_upd (o := .tup [.int (j : Nat), .int c]) nT
      have ew6 := t6 _ _ ew5
      have ec6 := t6 _ _ ec5
      have ht6 := ht5.same t6
      have ha6 := same_t t6 ha5
      refine ⟨T, _, rfl, SqT.of upd_same, rfl, _, _, rfl, _, _, rfl, rfl, ?_⟩
      generalize upd H5 T (.tup [.int (j : Nat), .int c]) = H6 at s6 ew6 ec6 ht6 ha6 ⊢
      clear ew5 ec5 ht5 ha5 s5 t6
      have bad : (c < 0 ∨ 256 + ((wsOf P').length : Int) ≤ c) → bkLong (wsOf P) cs = .inl j := fun h => by rw [eq5, if_pos h]
      refine ⟨_, rfl, _, _, rfl, rfl, _, rfl, ite2 (fun e => ?_) (fun e => ?_)⟩
      · exact iteT ⟨_, rfl, mk_inner (log_le (by omega)) (fun H7 d s7 nd ed => qe j (bad (.inl (of_decide_eq_true e))) H7 d (s6.trans s7) (s6.free nd) ed)⟩
      have e0 : ¬ c < 0 := fun y => e (decide_eq_true y)
      refine ⟨_, rfl, _, rfl, lw, _, rfl, .inl (SqL.of ew6), _, _, rfl, rfl, _, _, rfl, rfl, _, rfl, ite2 (fun e => ?_) (fun e => ?_)⟩
      · have e : 256 + ((refsW P').length : Int) ≤ c := of_decide_eq_true e
        rw [List.length_map, ← wsOf_len] at e
        exact ⟨_, rfl, mk_inner (log_le (by omega)) (fun H7 d s7 nd ed => qe j (bad (.inr e)) H7 d (s6.trans s7) (s6.free nd) ed)⟩
      have e1 : ¬ 256 + ((wsOf P').length : Int) ≤ c := fun z => e (decide_eq_true (by show 256 + ((refsW P').length : Int) ≤ c; rw [List.length_map, ← wsOf_len]; exact z))
      rw [if_neg (by omega)] at eq5
      refine ⟨_, rfl, _, rfl, lw, c, P', rfl, SqL.of ew6, ht6, by omega, (by rw [← wsOf_len]; omega), fun H7 tu s7 htu => ?_⟩
      refine name_by ?_
      dsimp only
      have s8 := s6.trans s7
      refine ⟨_, rfl, lc, _, rfl, .inl (SqL.of (s7 _ _ ec6)), _, rfl, tu, _, rfl, .inr htu, _, _, rfl, rfl, _, _, rfl, rfl, _, rfl, ite2 (fun e => ?_) (fun e => ?_)⟩
      · have e : 60 < fv.length + (bkWord (wsOf P') c).length := by
          have := of_decide_eq_true e
          rw [List.length_map, List.length_map] at this
          omega
        rw [if_pos e] at eq5
        exact ⟨_, rfl, mk_inner (log_le (by omega)) (fun H9 d s9 nd ed => qe j eq5 H9 d (s8.trans s9) (s8.free nd) ed)⟩
      have e2 : ¬ 60 < fv.length + (bkWord (wsOf P') c).length := fun z => e (decide_eq_true (by rw [List.length_map, List.length_map]; omega))
      rw [if_neg e2] at eq5
      refine ⟨_, rfl, .inl ⟨rfl, _, SqL.of (s7 _ _ ec6)⟩, _, rfl, lc, tu, _, _, rfl, rfl, s7 _ _ ec6, htu, ?_, ?_⟩
      · rw [List.length_map, List.length_map]
        exact sz4 (by omega)
      rw [← List.map_append]
      have nolc : ∀ b ∈ [lc], ∀ o, H7 b = some o → noT o := fun b hb o eo => by
        rw [in1 hb, s7 _ _ ec6] at eo
        cases eo
        trivial
      have m9 : MvF [lc] H7 (upd H7 lc (.lst ((fv ++ bkWord (wsOf P') c).map V.int))) := (MvF.refl _ _).upd (.head _)
      have ht9 := (ht6.same s7).mvf m9 nolc
      have ha9 := sqT_mvf m9 nolc (same_t s7 ha6)
      have htu9 := sqT_mvf m9 nolc htu
      have s9 : Same H (upd H7 lc (.lst ((fv ++ bkWord (wsOf P') c).map V.int))) := same_mut s8 nc0
      have ew9 : upd H7 lc (.lst ((fv ++ bkWord (wsOf P') c).map V.int)) lw = some (.lst (refsW P')) := by rw [upd_ne nwc]; exact s7 _ _ ew6
      have ec9 : upd H7 lc (.lst ((fv ++ bkWord (wsOf P') c).map V.int)) lc = some (.lst ((fv ++ bkWord (wsOf P') c).map V.int)) := upd_same
      generalize upd H7 lc (.lst ((fv ++ bkWord (wsOf P') c).map V.int)) = H9 at s9 ew9 ec9 ht9 ha9 htu9 ⊢
      clear m9 nolc ew6 ec6 ht6 ha6
      refine ⟨_, rfl, _, rfl, _, rfl, lw, ta, tu, P', av, bkWord (wsOf P') c, rfl, ew9, ht9, ha9, htu9, by omega, (by have := h615.1; rw [wsOf_len] at this; omega), fun H10 P10 m10 ew10 ht10 e10 => ?_⟩
      have nolw : ∀ b ∈ [lw], ∀ o, H9 b = some o → noT o := fun b hb o eo => by
        rw [in1 hb, ew9] at eo
        cases eo
        trivial
      have htu10 := sqT_mvf m10 nolw htu9
      have s10 : Same H H10 := fun b o eb => m10.kp b o (fun z => ne_of_none eb nw (in1 z)) (s9 b o eb)
      have ec10 : H10 lc = some (.lst ((fv ++ bkWord (wsOf P') c).map V.int)) := m10.kp _ _ (fun z => nwc (in1 z).symm) ec9
      refine ⟨_, rfl, ?_⟩
      refine name_by ?_
      exact ⟨P10, bkWord (wsOf P') c, fv ++ bkWord (wsOf P') c, tu, _, _, _, rfl, s10, ew10, ht10, (by rw [e10]; exact w61_learn h615 hav), ec10, htu10, by omega, (by rw [List.length_append]; omega), (by rw [eq5, e10])⟩
    · clear ew4 ec4 ha4 ht0 s4
      rintro σ H5 ⟨P', av, fv, ta, y5, y6, y7, rfl, s5, ew5, ht5, h615, ec5, ha5, hav, hfv, eq5⟩
      rw [List.length_map, List.drop_length] at eq5
      have eq5 : bkLong (wsOf P) cs = .inr (fv, wsOf P') := eq5
      have e6 := s5 _ _ hins
      refine ⟨_, rfl, _, rfl, r, C, dx, _, rfl, e6, R.cls, R.nw, (by show 1 < 1000; decide), ?_⟩
      have ep : putF "words" (.ref lw) (bkF l) = bkF lw := rfl
      rw [ep]
      have nwr : lw ≠ r := (ne_of_none hins nw).symm
      have ncr : lc ≠ r := (ne_of_none hins nc0).symm
      refine ⟨_, rfl, q fv (wsOf P') eq5 _ lw lc P' ((MvF.of s5).upd (.head _)) nw nc0 nwc.symm ⟨⟨dx, upd_same⟩, by rw [upd_ne nwr]; exact ew5⟩ (fun p hp => sqT_updI e6 (ht5 p hp)) rfl (by rw [upd_ne ncr]; exact ec5)⟩
theorem sc_bits_of : FnScope ["row", "bits", "byte"] ["row"] (defScope s_bits_of) := ⟨rfl, rfl, rfl, by decide +kernel, rfl, by decide +kernel, by decide +kernel⟩
def spBits8 (K : PySem.W.Frag) (C : Addr) : Sp := fun vs H Q E => ∃ (a : Addr) (ns : List Int), vs = [.ref a] ∧ SqL K H a (ns.map V.int) ∧ ns.length ≤ 10000 ∧
  (Bytes ns → ∀ (H' : Hp) (p : Addr), Same H H' → H p = none → H' p = some (.lst ((bb ns).map V.int)) → Q (.ref p) H') ∧
  (∀ (i : Nat) (z : Int), ns[i]? = some z → ¬ isY z → Bytes (ns.take i) → ∀ H' d, Same H H' → H d = none → H' d = some (.xd [(("at" : Str), .int (i : Int)), (("word" : Str), .str "BadByte")]) → E (.ref C) (some d) H')
theorem ok_bits_of {f C cN : Addr} {fd : FuncData} {k : Nat} {tB : Tok} (F : Fun K "bits_of" "bits_of" s_bits_of f fd) (g_BYTE_BITS : mg "BYTE_BITS" = some (.int 8 tB)) (c_check_bytes : CalX P w K mg base k "check_bytes" ["row"] (spCheckY K C)) (c_number_bits : CalX P w K mg base k "number_bits" ["number", "many"] (spNbX cN)) :
    FnOk P w K mg base (L2.CX P w) (k + 1) f fd ["row"] (spBits8 K C) := by
  have sc := sc_bits_of
  refine F.okX sc (fun vs H Q E h => ?_) (fun cdv A outer s H vs Q E hr h => ?_)
  · obtain ⟨a, ns, rfl, _⟩ := h
    rfl
  · obtain ⟨a, ns, rfl, hS, hl, q, qb⟩ := h
    refine ⟨_, (pss_cons (ps_expr (pe_callP c_check_bytes hr (passes_call (takes_of rfl rfl rfl rfl) (fun _ _ _ _ h => h)) (by rfl) (pa_cons (pv 0) pa_nil)))
 (pss_cons (ps_set (i := 1) sc.nd rfl (.inl rfl) (pe_lst pa_nil))
 (pss_cons (ps_for (passes_of rfl) rfl (pi_listK K rfl (pv 0)) (pg_name (i := 2) sc.nd rfl (.inl rfl))
  (pss_one (ps_expr (pe_bmK K rfl PySem.F.plainAttrs_list PySem.F.slot_list_extend PySem.F.type_list_extend mt_extend (pv 1) (pa_cons (pe_callP c_number_bits hr (passes_call (takes_of rfl rfl rfl rfl) (fun _ _ _ _ h => h)) (by rfl) (pa_cons (pv 2) (pa_cons (pe_glob (v := .int 8) (by rfl) g_BYTE_BITS ⟨_, rfl⟩) pa_nil))) pa_nil)))))
 (pss_one (ps_ret (pv 1)))))), ?_⟩
    refine ⟨_, rfl, a, ns, rfl, hS, by omega, fun hB H1 s1 => ?_, qb⟩
    refine ⟨Nat.zero_le _, fun o no => ?_⟩
    have n0 : H o = none := s1.free no
    have s2 := s1.trans (same_upd (o := .lst []) no)
    refine ⟨_, rfl, a, rfl, ⟨_, s2.seq hS⟩, for_list (K := K) (a := a) (xs := ns.map V.int) (fun i σ H' => ∃ y2, σ = [some (.ref a), some (.ref o), y2] ∧ Same H H' ∧ H' o = some (.lst ((bb (ns.take i)).map V.int))) ⟨none, rfl, s2, upd_same⟩ (fun i σ H' _ h => ?_) ?_ ?_⟩
    · obtain ⟨_, _, sm, _⟩ := h
      exact sm.seq hS
    · rintro i x σ H' hx ⟨y2, rfl, sm, eo⟩
      obtain ⟨z, hz, rfl⟩ := getI hx
      have hil : i < ns.length := (List.getElem?_eq_some_iff.mp hz).1
      have zb := hB z (List.mem_of_getElem? hz)
      refine ⟨_, rfl, .inl ⟨rfl, _, SqL.of eo⟩, _, rfl, z, 8, rfl, (fun m em hm0 h0 h1 H3 p3 s3 n3 e3 => ?_), (fun bad => by
        have h1 := zb.1
        have h2 := zb.2
        rcases bad with h | h | h | h
        · exact absurd h (by decide)
        · exact absurd h (by decide)
        · omega
        · have : (2 : Int) ^ (8 : Int).toNat = 256 := rfl
          omega)⟩
      obtain rfl : m = 8 := by omega
      refine ⟨o, p3, _, _, rfl, rfl, s3 _ _ eo, e3, ?_, ?_⟩
      · rw [List.length_map, List.length_map, bb_len, wr_len, List.length_take]
        exact sz4 (by omega)
      · rw [← List.map_append]
        refine ⟨_, rfl, same_mut (sm.trans s3) n0, ?_⟩
        rw [upd_same, take_more hz, bb_app]
        rw [show bb [z] = wr 8 z from List.append_nil _]
    · rintro σ H' ⟨y2, rfl, sm, eo⟩
      rw [List.length_map, List.take_length] at eo
      exact ⟨_, rfl, q hB H' o sm n0 eo⟩
/-! ### packing: the mathematics and the promises -/
def nb (n : Nat) (ns : List Int) : List Int := (ns.map (wr n)).flatten
theorem nb8 (ns : List Int) : nb 8 ns = bb ns := rfl
theorem nb_cons (n : Nat) (z : Int) (r : List Int) : nb n (z :: r) = wr n z ++ nb n r := rfl
theorem nb_app (n : Nat) (a c : List Int) : nb n (a ++ c) = nb n a ++ nb n c := by
  unfold nb
  rw [List.map_append, List.flatten_append]
theorem nb_len (n : Nat) : ∀ ns : List Int, (nb n ns).length = n * ns.length
  | [] => rfl
  | z :: r => by
    rw [nb_cons, List.length_append, wr_len, nb_len n r, List.length_cons, Nat.mul_add]
    omega
theorem nb_bits (n : Nat) : ∀ ns : List Int, Bits (nb n ns)
  | [] => bits_nil
  | z :: r => by
    rw [nb_cons]
    exact bits_app (wr_bits n z) (nb_bits n r)
theorem byN_nb {n : Nat} (b : Int) : ∀ {ns : List Int}, (∀ z ∈ ns, 0 ≤ z ∧ z < 2 ^ n) → byN n (b :: nb n ns) ns.length = ns
  | [], _ => rfl
  | z :: r, h => by
    have ih := byN_nb b (ns := r) (fun y hy => h y (.tail _ hy))
    unfold byN at ih ⊢
    rw [List.length_cons, List.range_succ_eq_map, List.map_cons, List.map_map]
    have hz := h z (.head _)
    have e0 : bn (((b :: nb n (z :: r)).drop (1 + n * 0)).take n) = z := by
      rw [nb_cons, Nat.mul_zero]
      show bn ((wr n z ++ nb n r).take n) = z
      rw [List.take_append_of_le_length (by rw [wr_len]; exact Nat.le_refl _), List.take_of_length_le (by rw [wr_len]; exact Nat.le_refl _)]
      exact bn_wr hz.1 hz.2
    rw [e0]
    congr 1
    refine (List.map_congr_left (fun i _ => ?_)).trans ih
    show bn (((b :: (wr n z ++ nb n r)).drop (1 + n * (i + 1))).take n) = bn (((b :: nb n r).drop (1 + n * i)).take n)
    rw [Nat.add_comm 1, List.drop_succ_cons, Nat.add_comm 1, List.drop_succ_cons, Nat.mul_add, Nat.mul_one, Nat.add_comm (n * i) n, ← List.drop_drop, List.drop_left' (wr_len n z)]
def bkPack (ws : Wds) (row : List Int) : List Int := if 8 * row.length ≤ 9 * (bkShort ws row).1.length then 0 :: bb row else 1 :: nb 9 (bkShort ws row).1
inductive UnO
  | ok (row : List Int) (ws : Wds)
  | frame (n : Nat)
  | long
  | code (i : Nat)
def bkUn1 (ws : Wds) (cs : List Int) : UnO := match bkLong ws cs with
  | .inl i => .code i
  | .inr p => .ok p.1 p.2
def bkUnpack (ws : Wds) : List Int → UnO
  | [] => .frame 0
  | b :: r => if b = 1 then (if r.length % 9 ≠ 0 then .frame (r.length + 1) else bkUn1 ws (byN 9 (b :: r) (r.length / 9)))
    else if r.length % 8 ≠ 0 then .frame (r.length + 1) else if 60 < r.length / 8 then .long else .ok (byN 8 (b :: r) (r.length / 8)) (bkShort ws (byN 8 (b :: r) (r.length / 8))).2
theorem bkUnpack_cons (ws : Wds) (b : Int) (r : List Int) : bkUnpack ws (b :: r) = if b = 1 then (if r.length % 9 ≠ 0 then .frame (r.length + 1) else bkUn1 ws (byN 9 (b :: r) (r.length / 9)))
    else if r.length % 8 ≠ 0 then .frame (r.length + 1) else if 60 < r.length / 8 then .long else .ok (byN 8 (b :: r) (r.length / 8)) (bkShort ws (byN 8 (b :: r) (r.length / 8))).2 := rfl
theorem bkUnpack_bytes {ws : Wds} {row : List Int} (hb : Bytes row) (hl : row.length ≤ 60) : bkUnpack ws (0 :: bb row) = .ok row (bkShort ws row).2 := by
  have e : byN 8 (0 :: bb row) ((bb row).length / 8) = row := by
    rw [bb_len, Nat.mul_div_cancel_left _ (by decide)]
    exact byN_nb 0 (n := 8) hb
  rw [bkUnpack_cons, if_neg (by decide), e, bb_len, if_neg (by simp), Nat.mul_div_cancel_left _ (by decide), if_neg (by omega)]
theorem bkUnpack_codes {ws : Wds} {cs : List Int} (hc : ∀ c ∈ cs, 0 ≤ c ∧ c < 512) : bkUnpack ws (1 :: nb 9 cs) = bkUn1 ws cs := by
  have e : byN 9 (1 :: nb 9 cs) ((nb 9 cs).length / 9) = cs := by
    rw [nb_len, Nat.mul_div_cancel_left _ (by decide)]
    exact byN_nb 1 (n := 9) hc
  rw [bkUnpack_cons, if_pos rfl, e, nb_len, if_neg (by simp)]
theorem bkUnpack_short {ws : Wds} {row : List Int} (hb : Bytes row) (hl : row.length ≤ 60) : bkUnpack ws (1 :: nb 9 (bkShort ws row).1) = .ok row (bkShort ws row).2 := by
  rw [bkUnpack_codes (fun c hc => by have := bkShort_codes (ws := ws) hb c hc; omega)]
  unfold bkUn1
  rw [bkLong_short hb hl]
theorem bkUnpack_pack {ws : Wds} {row : List Int} (hb : Bytes row) (hl : row.length ≤ 60) : bkUnpack ws (bkPack ws row) = .ok row (bkShort ws row).2 := by
  unfold bkPack
  split
  · exact bkUnpack_bytes hb hl
  · exact bkUnpack_short hb hl
theorem bkPack_bits (ws : Wds) (row : List Int) : Bits (bkPack ws row) := by
  unfold bkPack
  split
  · exact bits_app (bits_one (.inl rfl)) (bb_bits row)
  · exact bits_app (bits_one (.inr rfl)) (nb_bits 9 _)
theorem bkPack_len (ws : Wds) (row : List Int) : (bkPack ws row).length ≤ 8 * row.length + 1 := by
  unfold bkPack
  split
  · rw [List.length_cons, bb_len]
    omega
  · rw [List.length_cons, nb_len]
    omega
theorem byN_bytes {n : Nat} {bs : List Int} {c : Nat} (h : Bits bs) : ∀ z ∈ byN n bs c, 0 ≤ z ∧ z < 2 ^ n := by
  intro z hz
  unfold byN at hz
  obtain ⟨i, _, rfl⟩ := List.mem_map.mp hz
  have hb : Bits ((bs.drop (1 + n * i)).take n) := bits_take (bits_drop h _) _
  have hl : ((bs.drop (1 + n * i)).take n).length ≤ n := by rw [List.length_take]; omega
  generalize (bs.drop (1 + n * i)).take n = l at hb hl
  have key : ∀ (l : List Int) (m : Int) (k : Nat), Bits l → 0 ≤ m → m < 2 ^ k → 0 ≤ l.foldl (fun n b => 2 * n + b) m ∧ l.foldl (fun n b => 2 * n + b) m < 2 ^ (k + l.length) := by
    intro l
    induction l with
    | nil => exact fun m k _ h0 h1 => ⟨h0, h1⟩
    | cons b r ih =>
      intro m k hb h0 h1
      have hbb := bits_cons hb
      have e : (2 : Int) ^ (k + 1) = 2 * 2 ^ k := by rw [Int.pow_succ, Int.mul_comm]
      have := ih (2 * m + b) (k + 1) hbb.2 (by rcases hbb.1 with rfl | rfl <;> omega) (by rcases hbb.1 with rfl | rfl <;> omega)
      rw [List.length_cons, show k + (r.length + 1) = k + 1 + r.length by omega]
      exact this
  have := key l 0 0 hb (by decide) (by decide)
  have e : (2 : Int) ^ (0 + l.length) ≤ 2 ^ n := by
    have : (2 : Nat) ^ (0 + l.length) ≤ 2 ^ n := Nat.pow_le_pow_right (by decide) (by omega)
    exact_mod_cast this
  unfold bn
  omega
theorem byN_len (n : Nat) (bs : List Int) (c : Nat) : (byN n bs c).length = c := by
  unfold byN
  rw [List.length_map, List.length_range]
theorem w61_unpack {ws : Wds} {bs row : List Int} {ws' : Wds} (h : W61 ws) (e : bkUnpack ws bs = .ok row ws') : W61 ws' := by
  cases bs with
  | nil => cases e
  | cons b r =>
    rw [bkUnpack_cons] at e
    split at e
    · split at e
      · cases e
      · unfold bkUn1 at e
        split at e
        · cases e
        · rename_i p ep
          obtain ⟨row', ws''⟩ := p
          cases e
          exact w61_len _ _ _ _ _ _ _ (Nat.zero_le _) (w61_begun h) ep
    · split at e
      · cases e
      · split at e
        · cases e
        · rename_i h1 h2 h3
          cases e
          exact w61_short h (by rw [byN_len]; omega)
def spPack (K : PySem.W.Frag) (C cY cL : Addr) : Sp := fun vs H Q E => ∃ (r l a : Addr) (P : List WP) (ns : List Int), vs = [.ref r, .ref a] ∧ Bk C r l P H ∧ TF K (knW P) H ∧ W61 (wsOf P) ∧ SqL K H a (ns.map V.int) ∧ ns.length ≤ 10000 ∧
  (Bytes ns → ns.length ≤ 60 → ∀ (H' : Hp) (l' o : Addr) (P' : List WP), MvF [r] H H' → H l' = none → H o = none → o ≠ l' → Bk C r l' P' H' → TF K (knW P') H' → wsOf P' = (bkShort (wsOf P) ns).2 → H' o = some (.lst ((bkPack (wsOf P) ns).map V.int)) → Q (.ref o) H') ∧
  (Bytes ns → 60 < ns.length → ∀ H' d, Same H H' → H d = none → H' d = some (.xd [(("most" : Str), .int 60), (("word" : Str), .str "TooLong")]) → E (.ref cL) (some d) H') ∧
  (∀ (i : Nat) (z : Int), ns[i]? = some z → ¬ isY z → Bytes (ns.take i) → ∀ H' d, Same H H' → H d = none → H' d = some (.xd [(("at" : Str), .int (i : Int)), (("word" : Str), .str "BadByte")]) → E (.ref cY) (some d) H')
def spUnpack (K : PySem.W.Frag) (C cB cF cL cC : Addr) : Sp := fun vs H Q E => ∃ (r l a : Addr) (P : List WP) (bs : List Int), vs = [.ref r, .ref a] ∧ Bk C r l P H ∧ TF K (knW P) H ∧ W61 (wsOf P) ∧ SqL K H a (bs.map V.int) ∧ bs.length ≤ 10000 ∧
  (Bits bs → ∀ row ws', bkUnpack (wsOf P) bs = .ok row ws' → ∀ (H' : Hp) (l' o : Addr) (P' : List WP), MvF [r] H H' → H l' = none → H o = none → o ≠ l' → Bk C r l' P' H' → TF K (knW P') H' → wsOf P' = ws' → H' o = some (.lst (row.map V.int)) → Q (.ref o) H') ∧
  (Bits bs → ∀ n, bkUnpack (wsOf P) bs = .frame n → ∀ H' d, Same H H' → H d = none → H' d = some (.xd [(("at" : Str), .int (n : Int)), (("word" : Str), .str "BadFrame")]) → E (.ref cF) (some d) H') ∧
  (Bits bs → bkUnpack (wsOf P) bs = .long → ∀ H' d, Same H H' → H d = none → H' d = some (.xd [(("most" : Str), .int 60), (("word" : Str), .str "TooLong")]) → E (.ref cL) (some d) H') ∧
  (Bits bs → ∀ i : Nat, bkUnpack (wsOf P) bs = .code i → ∀ H' d, Same H H' → H d = none → H' d = some (.xd [(("at" : Str), .int (i : Int)), (("word" : Str), .str "BadCode")]) → E (.ref cC) (some d) H') ∧
  (∀ (i : Nat) (z : Int), bs[i]? = some z → ¬ isB z → Bits (bs.take i) → ∀ H' d, Same H H' → H d = none → H' d = some (.xd [(("at" : Str), .int (i : Int)), (("word" : Str), .str "BadBit")]) → E (.ref cB) (some d) H')
theorem sc_Book_pack : FnScope ["self", "row", "codes", "bits", "code"] ["self", "row"] (defScope m_Book_pack) := ⟨rfl, rfl, rfl, by decide +kernel, rfl, by decide +kernel, by decide +kernel⟩
theorem ok_Book_pack {f C cY cL cN : Addr} {fd : FuncData} {k : Nat} {t9 t8 : Tok} (F : Fun K "pack" "Book.pack" m_Book_pack f fd) (R : BkC K C) (n_len : mg "len" = none) (g_CODE_BITS : mg "CODE_BITS" = some (.int 9 t9)) (g_BYTE_BITS : mg "BYTE_BITS" = some (.int 8 t8)) (c_bits_of : CalX P w K mg base k "bits_of" ["row"] (spBits8 K cY)) (c_number_bits : CalX P w K mg base k "number_bits" ["number", "many"] (spNbX cN)) (c_Book_shorten : CalM (L2.CX P w) P w K mg base k C "shorten" ["self", "row"] (spShort K C cY cL)) :
    FnOk P w K mg base (L2.CX P w) (k + 1) f fd ["self", "row"] (spPack K C cY cL) := by
  have sc := sc_Book_pack
  refine F.okX sc (fun vs H Q E h => ?_) (fun cdv A outer s H vs Q E hr h => ?_)
  · obtain ⟨r, l, a, P, ns, rfl, _⟩ := h
    rfl
  · obtain ⟨r, l, a, P, ns, rfl, hbk, ht, h61, hS, hl, q, ql, qy⟩ := h
    refine ⟨_, (pss_cons (ps_set (i := 2) sc.nd rfl (.inl rfl) (pe_methP (pv 0) c_Book_shorten hr (passes_call (takes_of rfl rfl rfl rfl) (fun _ _ _ _ h => h)) (pa_cons (pv 1) pa_nil)))
 (pss_cons (ps_if (pt_cmpR op_ge (pe_op op_mul (pe_glob (v := .int 9) (by rfl) g_CODE_BITS ⟨_, rfl⟩) (pe_callB (call_lenK K rfl) (by rfl) n_len PySem.boot_len (pa_cons (pv 2) pa_nil))) (pe_op op_mul (pe_glob (v := .int 8) (by rfl) g_BYTE_BITS ⟨_, rfl⟩) (pe_callB (call_lenK K rfl) (by rfl) n_len PySem.boot_len (pa_cons (pv 1) pa_nil))) (nomark _))
  (pss_one (ps_ret (pe_op op_cat (pe_lst (pa_cons pe_int pa_nil)) (pe_callP c_bits_of hr (passes_call (takes_of rfl rfl rfl rfl) (fun _ _ _ _ h => h)) (by rfl) (pa_cons (pv 1) pa_nil)))))
  pss_nil)
 (pss_cons (ps_set (i := 3) sc.nd rfl (.inl rfl) (pe_lst (pa_cons pe_int pa_nil)))
 (pss_cons (ps_for (passes_of rfl) rfl (pi_listK K rfl (pv 2)) (pg_name (i := 4) sc.nd rfl (.inl rfl))
  (pss_one (ps_expr (pe_bmK K rfl PySem.F.plainAttrs_list PySem.F.slot_list_extend PySem.F.type_list_extend mt_extend (pv 3) (pa_cons (pe_callP c_number_bits hr (passes_call (takes_of rfl rfl rfl rfl) (fun _ _ _ _ h => h)) (by rfl) (pa_cons (pv 4) (pa_cons (pe_glob (v := .int 9) (by rfl) g_CODE_BITS ⟨_, rfl⟩) pa_nil))) pa_nil)))))
 (pss_one (ps_ret (pv 3))))))), ?_⟩
    obtain ⟨⟨dx, hins⟩, hmem⟩ := id hbk
    refine ⟨_, rfl, r, dx, _, rfl, hins, rfl, _, rfl, r, l, a, P, ns, rfl, hbk, ht, h61, hS, hl, (fun hB h60 H1 l' oc P' m1 nl' noc nol bk1 ht1 e1 ec1 => ?_), ql, qy⟩
    have q := q hB h60
    clear ql qy
    have hS1 : SqL K H1 a (ns.map V.int) := sqL_mvI m1 hins hS
    have hcl : (bkShort (wsOf P) ns).1.length ≤ 60 := by have := bkShort_len (wsOf P) ns; omega
    refine name_by ?_
    dsimp only
    refine ⟨_, rfl, oc, _, rfl, .inl (SqL.of ec1), _, _, rfl, rfl, .inl ⟨by decide, by decide⟩, _, rfl, a, _, rfl, .inl hS1, _, _, rfl, rfl, .inl ⟨by decide, by decide⟩, _, _, rfl, rfl, _, rfl, ite2 (fun e => ?_) (fun e => ?_)⟩
    · have e : 8 * ns.length ≤ 9 * (bkShort (wsOf P) ns).1.length := by
        have := of_decide_eq_true e
        rw [List.length_map, List.length_map] at this
        omega
      have ep : bkPack (wsOf P) ns = 0 :: bb ns := if_pos e
      rw [ep] at q
      refine ⟨(by show 1 ≤ sizeLine; decide), fun p2 n2 => ?_⟩
      have s2 := same_upd (o := .lst [.int 0]) n2
      refine ⟨_, rfl, a, ns, rfl, s2.seq hS1, by omega, (fun _ H3 p3 s3 n3 e3 => ?_), (fun i z hz nz => absurd (hB z (List.mem_of_getElem? hz)) nz)⟩
      refine ⟨p2, p3, _, _, rfl, rfl, s3 _ _ upd_same, e3, ?_, fun p4 n4 => ?_⟩
      · rw [List.length_map, bb_len]
        exact sz4 (by show 1 + 8 * ns.length ≤ 100000; omega)
      have s4 := (s2.trans s3).trans (same_upd (o := .lst ([V.int 0] ++ (bb ns).map V.int)) n4)
      have n4' : H1 p4 = none := (s2.trans s3).free n4
      refine q _ l' p4 P' (m1.same s4) nl' (m1.free n4') (ne_of_none bk1.mem n4').symm (bk1.same s4) (ht1.same s4) e1 ?_
      rw [upd_same]
      rfl
    · have e : ¬ 8 * ns.length ≤ 9 * (bkShort (wsOf P) ns).1.length := fun z => e (decide_eq_true (by rw [List.length_map, List.length_map]; omega))
      have ep : bkPack (wsOf P) ns = 1 :: nb 9 (bkShort (wsOf P) ns).1 := if_neg e
      rw [ep] at q
      have hcd := bkShort_codes (ws := wsOf P) hB
      generalize (bkShort (wsOf P) ns).1 = cs at *
      refine ⟨(by show 1 ≤ sizeLine; decide), fun p2 n2 => ?_⟩
      have s2 := same_upd (o := .lst [.int 1]) n2
      refine name_by ?_
      dsimp only
      refine ⟨_, rfl, oc, rfl, ⟨_, SqL.of (s2 _ _ ec1)⟩, for_list (K := K) (a := oc) (xs := cs.map V.int) (fun i σ H' => ∃ y4, σ = [some (.ref r), some (.ref a), some (.ref oc), some (.ref p2), y4] ∧ Same H1 H' ∧ H' p2 = some (.lst ((1 :: nb 9 (cs.take i)).map V.int))) ⟨none, rfl, s2, upd_same⟩ (fun i σ H' _ h => ?_) ?_ ?_⟩
      · obtain ⟨_, _, sm, _⟩ := h
        exact SqL.of (sm _ _ ec1)
      · rintro i x σ H3 hx ⟨y4, rfl, s3, e3⟩
        obtain ⟨c, hc, rfl⟩ := getI hx
        have hcc := hcd c (List.mem_of_getElem? hc)
        refine ⟨_, rfl, .inl ⟨rfl, _, SqL.of e3⟩, _, rfl, c, 9, rfl, (fun m em hm0 h0 h1 H4 p4 s4 n4 e4 => ?_), (fun bad => by
          rcases bad with h | h | h | h
          · exact absurd h (by decide)
          · exact absurd h (by decide)
          · omega
          · have : (2 : Int) ^ (9 : Int).toNat = 512 := rfl
            omega)⟩
        obtain rfl : m = 9 := by omega
        refine ⟨p2, p4, _, _, rfl, rfl, s4 _ _ e3, e4, ?_, ?_⟩
        · rw [List.length_map, List.length_map, List.length_cons, nb_len, wr_len, List.length_take]
          exact sz4 (by omega)
        · rw [← List.map_append]
          refine ⟨_, rfl, same_mut (s3.trans s4) n2, ?_⟩
          rw [upd_same, take_more hc, nb_app, show nb 9 [c] = wr 9 c from List.append_nil _, List.cons_append]
      · rintro σ H3 ⟨y4, rfl, s3, e3⟩
        rw [List.length_map, List.take_length] at e3
        exact ⟨_, rfl, q H3 l' p2 P' (m1.same s3) nl' (m1.free n2) (ne_of_none bk1.mem n2).symm (bk1.same s3) (ht1.same s3) e1 e3⟩
theorem sc_Book_unpack : FnScope ["self", "bits", "row"] ["self", "bits"] (defScope m_Book_unpack) := ⟨rfl, rfl, rfl, by decide +kernel, rfl, by decide +kernel, by decide +kernel⟩
theorem ok_Book_unpack {f C cB cF cY cL cC : Addr} {fd : FuncData} {k : Nat} {t9 t8 : Tok} (F : Fun K "unpack" "Book.unpack" m_Book_unpack f fd) (R : BkC K C) (n_len : mg "len" = none) (g_CODE_BITS : mg "CODE_BITS" = some (.int 9 t9)) (g_BYTE_BITS : mg "BYTE_BITS" = some (.int 8 t8)) (x_BadFrame : XcOk P w K mg base k "BadFrame" cF (spIni K cF "BadFrame" "at")) (c_check_bits : CalX P w K mg base (k + 1) "check_bits" ["bits"] (spCheckX K cB))
    (c_numbers_behind_first : CalX P w K mg base (k + 1) "numbers_behind_first" ["bits", "many"] (spNBF K cF)) (c_Book_lengthen : CalM (L2.CX P w) P w K mg base (k + 1) C "lengthen" ["self", "codes"] (spLong K C cC)) (c_Book_shorten : CalM (L2.CX P w) P w K mg base (k + 1) C "shorten" ["self", "row"] (spShort K C cY cL)) :
    FnOk P w K mg base (L2.CX P w) (k + 2) f fd ["self", "bits"] (spUnpack K C cB cF cL cC) := by
  have sc := sc_Book_unpack
  refine F.okX sc (fun vs H Q E h => ?_) (fun cdv A outer s H vs Q E hr h => ?_)
  · obtain ⟨r, l, a, P, bs, rfl, _⟩ := h
    rfl
  · obtain ⟨r, l, a, P, bs, rfl, hbk, ht, h61, hS, hl, q, qf, ql, qc, qb⟩ := h
    refine ⟨_, (pss_cons (ps_expr (pe_callP c_check_bits hr (passes_call (takes_of rfl rfl rfl rfl) (fun _ _ _ _ h => h)) (by rfl) (pa_cons (pv 1) pa_nil)))
 (pss_cons (ps_if (pt_cmpR op_eq (pe_callB (call_lenK K rfl) (by rfl) n_len PySem.boot_len (pa_cons (pv 1) pa_nil)) pe_int (nomark _))
  (pss_one (ps_raise rfl (takes_of rfl rfl rfl rfl) (pmk_c x_BadFrame hr (by rfl) (pa_cons pe_int pa_nil))))
  pss_nil)
 (pss_cons (ps_if (pt_cmpR op_eq (pe_ix (ix_listK K rfl) (pv 1) pe_int (fun _ _ => rfl)) pe_int (nomark _))
  (pss_one (ps_ret (pe_methP (pv 0) c_Book_lengthen hr (passes_call (takes_of rfl rfl rfl rfl) (fun _ _ _ _ h => h)) (pa_cons (pe_callP c_numbers_behind_first hr (passes_call (takes_of rfl rfl rfl rfl) (fun _ _ _ _ h => h)) (by rfl) (pa_cons (pv 1) (pa_cons (pe_glob (v := .int 9) (by rfl) g_CODE_BITS ⟨_, rfl⟩) pa_nil))) pa_nil))))
  pss_nil)
 (pss_cons (ps_set (i := 2) sc.nd rfl (.inl rfl) (pe_callP c_numbers_behind_first hr (passes_call (takes_of rfl rfl rfl rfl) (fun _ _ _ _ h => h)) (by rfl) (pa_cons (pv 1) (pa_cons (pe_glob (v := .int 8) (by rfl) g_BYTE_BITS ⟨_, rfl⟩) pa_nil))))
 (pss_cons (ps_expr (pe_methP (pv 0) c_Book_shorten hr (passes_call (takes_of rfl rfl rfl rfl) (fun _ _ _ _ h => h)) (pa_cons (pv 2) pa_nil)))
 (pss_one (ps_ret (pv 2)))))))), ?_⟩
    refine ⟨_, rfl, a, bs, rfl, hS, by omega, fun hB H1 s1 => ?_, qb⟩
    have q := q hB
    have qf := qf hB
    have ql := ql hB
    have qc := qc hB
    clear qb
    have hS1 := s1.seq hS
    refine ⟨_, rfl, a, _, rfl, .inl hS1, rfl, _, rfl, ite2 (fun e => ?_) (fun e => ?_)⟩
    · have e : bs = [] := by
        have := of_decide_eq_true e
        rw [List.length_map] at this
        exact List.eq_nil_of_length_eq_zero (by have := V.int.inj this; omega)
      subst e
      exact mk_inner (i := 0) (log_le (n := 0) (by decide)) (fun H3 d s3 nd ed => qf 0 rfl H3 d (s1.trans s3) (s1.free nd) ed)
    cases bs with
    | nil => exact absurd (decide_eq_true rfl) e
    | cons b rs =>
      have hll : (b :: rs).length = rs.length + 1 := rfl
      have bk1 := hbk.same s1
      have ht1 := ht.same s1
      obtain ⟨⟨dx, hins⟩, hmem⟩ := id bk1
      clear e
      refine ⟨_, rfl, a, _, 0, .int b, rfl, rfl, hS1, atI_nat (j := 0) rfl, rfl, _, rfl, ite2 (fun e => ?_) (fun e => ?_)⟩
      · have e : b = 1 := V.int.inj (of_decide_eq_true e)
        have eu : bkUnpack (wsOf P) (b :: rs) = if rs.length % 9 ≠ 0 then .frame (rs.length + 1) else bkUn1 (wsOf P) (byN 9 (b :: rs) (rs.length / 9)) := by
          rw [bkUnpack_cons, if_pos e]
        refine ⟨_, rfl, r, dx, _, rfl, hins, rfl, _, rfl, a, b :: rs, 9, rfl, hS1, hB, by omega, hl, by decide, by decide, (fun c hc H2 p2 s2 n2 e2 => ?_), (fun ne H2 d s2 nd ed => ?_)⟩
        · have hc9 : rs.length = 9 * c := by omega
          rw [if_neg (by omega), show rs.length / 9 = c by omega] at eu
          unfold bkUn1 at eu
          have bk2 := bk1.same s2
          refine ⟨r, l, p2, P, byN 9 (b :: rs) c, rfl, bk2, ht1.same s2, h61, SqL.of e2, (by rw [byN_len]; omega), (fun row ws' ew H3 l' o P' m3 nl' no nol bk3 ht3 e3 eo => ?_), (fun i ei H3 d s3 nd ed => ?_)⟩
          · rw [ew] at eu
            have s12 := s1.trans s2
            refine q row ws' eu H3 l' o P' ((MvF.of s12).trans m3) (s12.free nl') (s12.free no) nol bk3 ht3 e3 eo
          · rw [ei] at eu
            exact qc i eu H3 d ((s1.trans s2).trans s3) ((s1.trans s2).free nd) ed
        · have ne' : rs.length % 9 ≠ 0 := by
            rw [hll, Nat.add_sub_cancel] at ne
            exact ne
          rw [if_pos ne'] at eu
          exact qf (rs.length + 1) eu H2 d (s1.trans s2) (s1.free nd) ed
      · have e : ¬ b = 1 := fun z => e (decide_eq_true (by rw [z]))
        have eu : bkUnpack (wsOf P) (b :: rs) = if rs.length % 8 ≠ 0 then .frame (rs.length + 1) else if 60 < rs.length / 8 then .long else .ok (byN 8 (b :: rs) (rs.length / 8)) (bkShort (wsOf P) (byN 8 (b :: rs) (rs.length / 8))).2 := by
          rw [bkUnpack_cons, if_neg e]
        refine ⟨_, rfl, a, b :: rs, 8, rfl, hS1, hB, by omega, hl, by decide, by decide, (fun c hc H2 p2 s2 n2 e2 => ?_), (fun ne H2 d s2 nd ed => ?_)⟩
        · have hc8 : rs.length = 8 * c := by omega
          rw [if_neg (by omega), show rs.length / 8 = c by omega] at eu
          have hby : Bytes (byN 8 (b :: rs) c) := byN_bytes (n := 8) hB
          have s12 := s1.trans s2
          have bk2 := bk1.same s2
          refine name_by ?_
          dsimp only
          refine ⟨_, rfl, r, dx, _, rfl, s2 _ _ hins, rfl, _, rfl, r, l, p2, P, byN 8 (b :: rs) c, rfl, bk2, ht1.same s2, h61, SqL.of e2, (by rw [byN_len]; omega), (fun _ h60 H3 l' o P' m3 nl' no nol bk3 ht3 e3 eo => ?_), (fun _ h60 H3 d s3 nd ed => ?_), (fun i z hz nz => absurd (hby z (List.mem_of_getElem? hz)) nz)⟩
          · rw [byN_len] at h60
            rw [if_neg (by omega)] at eu
            have e2' : H3 p2 = some (.lst ((byN 8 (b :: rs) c).map V.int)) := m3.kp _ _ (fun z => by
              rw [in1 z, s2 _ _ hins] at e2
              cases e2) e2
            refine ⟨_, rfl, q _ _ eu H3 l' p2 P' ((MvF.of s12).trans m3) (s12.free nl') (s1.free n2) (ne_of_none e2 nl') bk3 ht3 e3 e2'⟩
          · rw [byN_len] at h60
            rw [if_pos h60] at eu
            exact ql eu H3 d (s12.trans s3) (s12.free nd) ed
        · have ne' : rs.length % 8 ≠ 0 := by
            rw [hll, Nat.add_sub_cancel] at ne
            exact ne
          rw [if_pos ne'] at eu
          exact qf (rs.length + 1) eu H2 d (s1.trans s2) (s1.free nd) ed
theorem sc_Book_twin : FnScope ["self", "other"] ["self"] (defScope m_Book_twin) := ⟨rfl, rfl, rfl, by decide +kernel, rfl, by decide +kernel, by decide +kernel⟩
def spBkTwin (C : Addr) : Sp := fun vs H Q _ => ∃ (r l : Addr) (P : List WP), vs = [.ref r] ∧ Bk C r l P H ∧ ∀ (H' : Hp) (r' l' : Addr), Same H H' → H r' = none → H l' = none → Bk C r' l' P H' → Q (.ref r') H'
theorem ok_Book_twin {f C : Addr} {fd : FuncData} {k : Nat} (F : Fun K "twin" "Book.twin" m_Book_twin f fd) (R : BkC K C) (n_list : mg "list" = none) (c_Book : CalN P w K mg base k "Book" C ["self"] (spBkI C)) : FnOk P w K mg base CX0 (k + 2) f fd ["self"] (spBkTwin C) := by
  have sc := sc_Book_twin
  refine F.ok sc (fun vs H Q E h => ?_) (fun cdv A outer s H vs Q E hr h => ?_)
  · obtain ⟨r, l, P, rfl, _⟩ := h
    rfl
  · obtain ⟨r, l, P, rfl, hbk, q⟩ := h
    refine ⟨_, (pss_cons (ps_set (i := 1) sc.nd rfl (.inl rfl) (pe_makeC0 c_Book hr (by rfl)))
 (pss_cons (ps_fldK K rfl (pv 1) (pe_callTy (call_listK K rfl) (by rfl) n_list (by decide +kernel) (pa_cons (pe_fldK K rfl (pv 0)) pa_nil)))
 (pss_one (ps_ret (pv 1))))), ?_⟩
    refine fun x dx nx ndx nex => ⟨x, dx, rfl, upd_same, fun H2 l0 m2 nl0 bk2 => ⟨rfl, ?_⟩⟩
    have s2 := made_same nx ndx m2
    obtain ⟨⟨dx1, h1⟩, h2⟩ := hbk.same s2
    obtain ⟨⟨dx2, g1⟩, g2⟩ := bk2
    refine name_by ?_
    dsimp only
    refine ⟨_, rfl, r, C, dx1, _, _, rfl, h1, R.cls, R.nw, rfl, l, _, rfl, .inl (SqL.of h2), fun p3 n3 => ?_⟩
    have s3 := same_upd (o := .lst (refsW P)) n3
    refine ⟨_, rfl, x, C, dx2, _, rfl, s3 _ _ g1, R.cls, R.nw, (by show 1 < 1000; decide), ?_⟩
    have ep : putF "words" (.ref p3) (bkF l0) = bkF p3 := rfl
    rw [ep]
    refine ⟨_, rfl, q _ x p3 (same_mut (s2.trans s3) nx) nx (s2.free n3) ⟨⟨dx2, upd_same⟩, ?_⟩⟩
    rw [upd_ne (ne_of_none g1 n3).symm, upd_same]
/-! ### methods of parts, as changes of things -/
theorem up_mv {T T' : Th} [NT T] {F : List Addr} {H H' : Hp} (h : T.P H) (m : MvF F H H') (hF : ∀ a ∈ F, a ∈ T.ft) (hp : T'.P H') (hf : ∀ a ∈ T'.ft, a ∈ T.ft ∨ H a = none) : Up T [T'] H H' :=
  ⟨m.wide hF, nt_of h (m.wide hF), Hs.nil0.cons hp (fun j y hj => by cases hj), fun x hx a ha => by
    rw [List.mem_singleton.mp hx] at ha
    exact hf a ha⟩
theorem up_mvN {T T' N : Th} [NT T] {F : List Addr} {H H' : Hp} (h : T.P H) (m : MvF F H H') (hF : ∀ a ∈ F, a ∈ T.ft) (hp : T'.P H') (hf : ∀ a ∈ T'.ft, a ∈ T.ft ∨ H a = none) (hn : N.P H') (hnf : ∀ a ∈ N.ft, H a = none ∧ a ∉ T'.ft) : Up T [N, T'] H H' :=
  ⟨m.wide hF, nt_of h (m.wide hF), (Hs.nil0.cons hp (fun j y hj => by cases hj)).cons hn (fun j y hj a ha hb => by
    cases j with
    | zero =>
      cases Option.some.inj hj
      exact (hnf a ha).2 hb
    | succ j => cases hj), fun x hx a ha => by
    rcases List.mem_cons.mp hx with rfl | hx
    · exact .inr (hnf a ha).1
    · rw [List.mem_singleton.mp hx] at ha
      exact hf a ha⟩
theorem in2u {a r b : Addr} (h : a ∈ [r, b]) : a = r ∨ a = b := by simpa using h
/-- an own thing that was not there -/
theorem up_newTh {N : Th} {H H' : Hp} (s : Same H H') (hn : N.P H') (hf : ∀ a ∈ N.ft, H a = none) : Up (tG []) [N] H H' :=
  ⟨.of s, fun a u e _ => s a u e, Hs.nil0.cons hn (fun j y hj => by cases hj), fun x hx a ha => by
    rw [List.mem_singleton.mp hx] at ha
    exact .inr (hf a ha)⟩
/-- what a maker made -/
theorem up_made {C x dx : Addr} {Us : List Th} {H H' : Hp} (nx : H x = none) (ndx : H dx = none) (u : Up (tG [tO x (.ins C dx [])]) Us (upd (upd H dx (.own x)) x (.ins C dx [])) H') : Up (tG []) Us H H' := by
  have m : MvF [x] (upd (upd H dx (.own x)) x (.ins C dx [])) H' := u.mv
  have s := made_same nx ndx m
  refine ⟨.of s, fun a o e _ => s a o e, u.hs, fun y hy a ha => ?_⟩
  rcases u.ow y hy a ha with z | z
  · have z : a ∈ [x] := z
    exact .inr (by rw [in1 z]; exact nx)
  · exact .inr (made_none z)
theorem Rn.newTh {K : PySem.W.Frag} {L : List (Addr × List L2.V)} {Ts : List Th} {N : Th} {H0 H H' : Hp} {F : List Addr} (h : Rn K H0 F L Ts H) (s : Same H H') (hn : N.P H') (hf : ∀ a ∈ N.ft, H a = none) : Rn K H0 F L (N :: Ts) H' := h.upN (up_newTh s hn hf)
theorem Rn.mvs {K : PySem.W.Frag} {L : List (Addr × List L2.V)} {Ts : List Th} {H0 H H' : Hp} {F : List Addr} (h : Rn K H0 F L Ts H) (s : Same H H') : MvF F H0 H' := h.mv.same s
def RefAt (C : Addr) (nm : Str) (i : Nat) (H : Hp) (E : XK) : Prop := ∀ (H' : Hp) (d : Addr), Same H H' → H d = none → H' d = some (.xd [(("at" : Str), .int (i : Int)), (("word" : Str), .str nm)]) → E (.ref C) (some d) H'
/-! ### pieces and links as objects -/
structure PT where
  t : Addr
  place : Nat
  last : Int
  ba : Addr
  bits : List Int
abbrev ptV (p : PT) : List L2.V := [.int (p.place : Int), .int p.last, .ref p.ba]
abbrev knP (ps : List PT) : List (Addr × List L2.V) := ps.map fun p => (p.t, ptV p)
abbrev refsP (ps : List PT) : List L2.V := ps.map fun p => .ref p.t
structure KT where
  key : Nat
  t : Addr
  last : Int
  ba : Addr
  bits : List Int
abbrev keptD (ks : List KT) : List (Key × L2.V) := ks.map fun x => (.inl (x.key : Int), .ref x.t)
structure LA where
  r : Addr
  dx : Addr
  br : Addr
  bl : Addr
  q : Addr
  s : Addr
  i : Addr
  idx : Addr
  ibr : Addr
  ibl : Addr
  ik : Addr
  ig : Addr
structure LkS where
  P : List WP
  cut : Nat
  queue : List PT
  sent : List PT
  owes : Bool
  iP : List WP
  place : Nat
  kept : List KT
  begun : List Int
structure InC (K : PySem.W.Frag) (C : Addr) : Prop where
  cls : Cls K C
  n0 : NoAttr K C "book"
  n1 : NoAttr K C "place"
  n2 : NoAttr K C "kept"
  n3 : NoAttr K C "begun"
structure LkC (K : PySem.W.Frag) (C : Addr) : Prop where
  cls : Cls K C
  n0 : NoAttr K C "book"
  n1 : NoAttr K C "intake"
  n2 : NoAttr K C "cut"
  n3 : NoAttr K C "queue"
  n4 : NoAttr K C "sent"
  n5 : NoAttr K C "owes"
abbrev inF (b : Addr) (place : Int) (k g : Addr) : List (Str × L2.V) := [(("book" : Str), .ref b), (("place" : Str), .int place), (("kept" : Str), .ref k), (("begun" : Str), .ref g)]
abbrev lkF (b i : Addr) (cut : Int) (q s : Addr) (owes : Bool) : List (Str × L2.V) := [(("book" : Str), .ref b), (("intake" : Str), .ref i), (("cut" : Str), .int cut), (("queue" : Str), .ref q), (("sent" : Str), .ref s), (("owes" : Str), .bl owes)]
abbrev inTs (CB CI i idx ibr ibl ik ig : Addr) (iP : List WP) (place : Nat) (kept : List KT) (begun : List Int) : List Th := [tO i (.ins CI idx (inF ibr (place : Int) ik ig)), tBk CB ibr ibl iP, tO ik (.dK (keptD kept)), tL ig (begun.map L2.V.int)]
abbrev lkTs (CB CI CL : Addr) (A : LA) (S : LkS) : List Th := [tO A.r (.ins CL A.dx (lkF A.br A.i (S.cut : Int) A.q A.s S.owes)), tBk CB A.br A.bl S.P, tL A.q (refsP S.queue), tL A.s (refsP S.sent), tO A.i (.ins CI A.idx (inF A.ibr (S.place : Int) A.ik A.ig)), tBk CB A.ibr A.ibl S.iP, tO A.ik (.dK (keptD S.kept)), tL A.ig (S.begun.map L2.V.int)]
abbrev tLk (CB CI CL : Addr) (A : LA) (S : LkS) : Th := tG (lkTs CB CI CL A S)
/-- pieces that lie outside the places F -/
def PcOk (K : PySem.W.Frag) (F : List Addr) (ps : List PT) (H : Hp) : Prop := ∀ p ∈ ps, SqT K H p.t (ptV p) ∧ H p.ba = some (.lst (p.bits.map L2.V.int)) ∧ p.ba ∉ F
theorem PcOk.tf {K : PySem.W.Frag} {F : List Addr} {ps : List PT} {H : Hp} (h : PcOk K F ps H) : TF K (knP ps) H := fun q hq => by
  obtain ⟨p, hp, rfl⟩ := List.mem_map.mp hq
  exact (h p hp).1
theorem PcOk.keep {K : PySem.W.Frag} {F F2 : List Addr} {ps : List PT} {H H' : Hp} (h : PcOk K F ps H) (m : MvF F2 H H') (nt : ∀ a o, H a = some o → ¬ noT o → H' a = some o) (hF : ∀ a ∈ F2, a ∈ F) : PcOk K F ps H' := fun p hp => by
  obtain ⟨h1, h2, h3⟩ := h p hp
  exact ⟨sqT_keep (fun o e n => nt _ o e n) h1, m.kp _ _ (fun z => h3 (hF _ z)) h2, h3⟩
/-- the head of a payload -/
def headL (n a c l : Int) : List Int := wr 3 n ++ wr 3 a ++ [c, l]
def spHead : Sp := fun vs H Q _ => ∃ (n a c l : Int), vs = [.int n, .int a, .int c, .int l] ∧ 0 ≤ n ∧ n < 8 ∧ 0 ≤ a ∧ a < 8 ∧ ∀ (H' : Hp) (p : Addr), Same H H' → H p = none → H' p = some (.lst ((headL n a c l).map L2.V.int)) → Q (.ref p) H'
/-- the form of a piece -/
def formB (n c l : Int) (m : Nat) : Bool := if c = 1 then decide (1 ≤ m ∧ m ≤ 40) else decide (n = 0 ∧ l = 0 ∧ m = 0)
def spForm (K : PySem.W.Frag) : Sp := fun vs H Q _ => ∃ (n c l : Int) (a : Addr) (ns : List Int), vs = [.int n, .int c, .int l, .ref a] ∧ SqL K H a (ns.map L2.V.int) ∧ Q (.bl (formB n c l ns.length)) H
def spNo : Sp := fun _ _ _ _ => False
def spAw (CB CI CL : Addr) : Sp := fun vs H Q _ => ∃ (A : LA) (S : LkS), vs = [.ref A.r] ∧ (tLk CB CI CL A S).P H ∧ Q (.int ((S.place : Int) % 8)) H
def spLkWait (CB CI CL : Addr) : Sp := fun vs H Q _ => ∃ (A : LA) (S : LkS), vs = [.ref A.r] ∧ (tLk CB CI CL A S).P H ∧ Q (.int (S.queue.length : Int)) H
def spIdle (CB CI CL : Addr) : Sp := fun vs H Q _ => ∃ (A : LA) (S : LkS), vs = [.ref A.r] ∧ (tLk CB CI CL A S).P H ∧ Q (.bl (decide (S.queue.length = 0 ∧ S.sent.length = 0))) H
/-- the places of pieces, sorted -/
structure SrtP (ps : List PT) (ms : List Int) : Prop where
  perm : ms.Perm (ps.map fun p => (p.place : Int))
  up : ms.Pairwise (· ≤ ·)
def spOpen (K : PySem.W.Frag) (CB CI CL : Addr) : Sp := fun vs H Q _ => ∃ (A : LA) (S : LkS), vs = [.ref A.r] ∧ (tLk CB CI CL A S).P H ∧ TF K (knP S.sent) H ∧ S.sent.length ≤ 1000 ∧ ∀ (H' : Hp) (p : Addr) (ms : List Int), SrtP S.sent ms → Same H H' → H p = none → H' p = some (.lst (ms.map L2.V.int)) → Q (.ref p) H'
def spUnans (K : PySem.W.Frag) (CB CI CL : Addr) : Sp := fun vs H Q _ => ∃ (A : LA) (S : LkS), vs = [.ref A.r] ∧ (tLk CB CI CL A S).P H ∧ TF K (knP S.sent) H ∧ S.sent.length ≤ 1000 ∧ ∀ (H' : Hp) (p : Addr) (ms : List Int), SrtP S.sent ms → Same H H' → H p = none → H' p = some (.lst ((ms.map fun z => z % 8).map L2.V.int)) → Q (.ref p) H'
/-- what stays of the sent pieces, when a is answered -/
def ansL (ps : List PT) (ms : List Int) (a : Int) : List PT := if ms = [] then ps else if (a - ms.getD 0 0) % 8 ≤ (ms.length : Int) then ps.filter fun p => decide (ms.getD 0 0 + (a - ms.getD 0 0) % 8 ≤ (p.place : Int)) else ps
def spEnd (K : PySem.W.Frag) (CB CI CL : Addr) : Sp := fun vs H Q _ => ∃ (A : LA) (S : LkS) (a : Int), vs = [.ref A.r, .int a] ∧ (tLk CB CI CL A S).P H ∧ TF K (knP S.sent) H ∧ S.sent.length ≤ 1000 ∧ 0 ≤ a ∧ a < 8 ∧ ∀ (H' : Hp) (s' : Addr) (ms : List Int), SrtP S.sent ms → Up (tLk CB CI CL A S) (lkTs CB CI CL { A with s := s' } { S with sent := ansL S.sent ms a }) H H' → Q .non H'
/-- what the next frame tells: the queue behind, the sent ones before, the piece -/
def frMove (q s : List PT) : Option (List PT × List PT × PT) := match q, s with
  | x :: q', s => if s.length < 4 then some (q', s, x) else (match s with | y :: s' => some (x :: q', s', y) | [] => none)
  | [], y :: s' => some ([], s', y)
  | [], [] => none
def spFrame (K : PySem.W.Frag) (CB CI CL : Addr) : Sp := fun vs H Q _ => ∃ (A : LA) (S : LkS), vs = [.ref A.r] ∧ (tLk CB CI CL A S).P H ∧ PcOk K (tLk CB CI CL A S).ft (S.queue ++ S.sent) H ∧ (∀ p ∈ S.queue ++ S.sent, p.bits.length ≤ 1000) ∧ S.sent.length ≤ 1000 ∧
  (∀ q' s' x, frMove S.queue S.sent = some (q', s', x) → ∀ (H' : Hp) (p : Addr), Up (tLk CB CI CL A S) (tL p ((headL ((x.place : Int) % 8) ((S.place : Int) % 8) 1 x.last ++ x.bits).map L2.V.int) :: lkTs CB CI CL A { S with queue := q', sent := s' ++ [x], owes := false }) H H' → Q (.ref p) H') ∧
  (frMove S.queue S.sent = none → S.owes = true → ∀ (H' : Hp) (p : Addr), Up (tLk CB CI CL A S) (tL p ((headL 0 ((S.place : Int) % 8) 0 0).map L2.V.int) :: lkTs CB CI CL A { S with owes := false }) H H' → Q (.ref p) H') ∧
  (frMove S.queue S.sent = none → S.owes = false → Q .non H)
def spInI (CB CI : Addr) : Sp := fun vs H Q _ => ∃ (r dx : Addr), vs = [.ref r] ∧ H r = some (.ins CI dx []) ∧ ∀ (H' : Hp) (ibr ibl ik ig : Addr), Up (tG [tO r (.ins CI dx [])]) (inTs CB CI r dx ibr ibl ik ig [] 0 [] []) H H' → Q .non H'
def spLkI (CB CI CL : Addr) : Sp := fun vs H Q _ => ∃ (r dx : Addr), vs = [.ref r] ∧ H r = some (.ins CL dx []) ∧ ∀ (H' : Hp) (A : LA), A.r = r → A.dx = dx → Up (tG [tO r (.ins CL dx [])]) (lkTs CB CI CL A ⟨[], 0, [], [], false, [], 0, [], []⟩) H H' → Q .non H'
theorem bk_made {K : PySem.W.Frag} {L : List (Addr × List L2.V)} {Ts : List Th} {CB x dx l : Addr} {H0 H H2 : Hp} {F : List Addr} (h : Rn K H0 F L Ts H) (nx : H x = none) (ndx : H dx = none) (m : MvF [x] (upd (upd H dx (.own x)) x (.ins CB dx [])) H2) (nl : upd (upd H dx (.own x)) x (.ins CB dx []) l = none) (b : Bk CB x l [] H2) : Rn K H0 F L (tBk CB x l [] :: Ts) H2 :=
  h.newTh (N := tBk CB x l []) (made_same nx ndx m) b (fun a ha => by
    rcases in2u ha with rfl | rfl
    · exact nx
    · exact made_none nl)
/-- a row's bits cut into pieces -/
def pcN (bs : List Int) : Nat := (bs.length + 39) / 40
def pcL (bs : List Int) (j : Nat) : Int := if bs.length ≤ 40 * j + 40 then 1 else 0
def pcB (bs : List Int) (j : Nat) : List Int := (bs.drop (40 * j)).take 40
structure PcsOf (cut : Nat) (bs : List Int) (n : Nat) (new : List PT) : Prop where
  len : new.length = n
  all : ∀ (j : Nat) (p : PT), new[j]? = some p → p.place = cut + j ∧ p.last = pcL bs j ∧ p.bits = pcB bs j
abbrev fN (p : PT) : Th := tL p.ba (p.bits.map L2.V.int)
theorem Rn.perm {K : PySem.W.Frag} {L : List (Addr × List L2.V)} {Ts Us : List Th} {H0 H : Hp} {F : List Addr} (h : Rn K H0 F L Ts H) (p : Ts.Perm Us) : Rn K H0 F L Us H := ⟨⟨h.hw.hs.perm p, h.hw.tf⟩, h.mv, h.nt, fun x hx a ha => h.ow x (p.mem_iff.mpr hx) a ha⟩
def spHand (K : PySem.W.Frag) (CB CI CL cY cL cF : Addr) : Sp := fun vs H Q E => ∃ (A : LA) (S : LkS) (a : Addr) (ns : List Int), vs = [.ref A.r, .ref a] ∧ (tLk CB CI CL A S).P H ∧ TF K (knW S.P) H ∧ W61 (wsOf S.P) ∧ SqL K H a (ns.map L2.V.int) ∧ ns.length ≤ 10000 ∧ S.queue.length ≤ 1000 ∧
  (Bytes ns → ns.length ≤ 60 → S.queue.length < 40 → ∀ (H' : Hp) (br' bl' : Addr) (P' : List WP) (new : List PT), PcsOf S.cut (bkPack (wsOf S.P) ns) (pcN (bkPack (wsOf S.P) ns)) new → wsOf P' = (bkShort (wsOf S.P) ns).2 → TF K (knW P') H' → TF K (knP new) H' →
    Up (tLk CB CI CL A S) (new.map fN ++ lkTs CB CI CL { A with br := br', bl := bl' } { S with P := P', cut := S.cut + new.length, queue := S.queue ++ new }) H H' → Q .non H') ∧
  (Bytes ns → ns.length ≤ 60 → 40 ≤ S.queue.length → ∀ H' d, Same H H' → H d = none → H' d = some (.xd [(("most" : Str), .int 40), (("word" : Str), .str "Full")]) → E (.ref cF) (some d) H') ∧
  (Bytes ns → 60 < ns.length → ∀ H' d, Same H H' → H d = none → H' d = some (.xd [(("most" : Str), .int 60), (("word" : Str), .str "TooLong")]) → E (.ref cL) (some d) H') ∧
  (∀ (i : Nat) (z : Int), ns[i]? = some z → ¬ isY z → Bytes (ns.take i) → RefAt cY "BadByte" i H E)
theorem Rn.gadd {α : Type} {K : PySem.W.Frag} {L : List (Addr × List L2.V)} {Ts : List Th} {H0 H : Hp} {F : List Addr} {f : α → Th} {Y : List α} {z : α} (h : Rn K H0 F L (f z :: tG (Y.map f) :: Ts) H) : Rn K H0 F L (tG ((Y ++ [z]).map f) :: Ts) H := ⟨h.hw.gadd, h.mv, h.nt, fun x hx a ha => by
  rcases List.mem_cons.mp hx with rfl | hx
  · obtain ⟨y, hy, ha⟩ := mem_tG.mp ha
    rcases List.mem_append.mp hy with q | q
    · exact h.ow (tG (Y.map f)) (.tail _ (.head _)) a (mem_tG.mpr ⟨y, q, ha⟩)
    · rw [List.mem_singleton.mp q] at ha
      exact h.ow (f z) (.head _) a ha
  · exact h.ow x (.tail _ (.tail _ hx)) a ha⟩
theorem Rn.gnil {α : Type} {K : PySem.W.Frag} {L : List (Addr × List L2.V)} {Ts : List Th} {H0 H : Hp} {F : List Addr} {f : α → Th} (h : Rn K H0 F L Ts H) : Rn K H0 F L (tG (([] : List α).map f) :: Ts) H := ⟨h.hw.gnil, h.mv, h.nt, fun x hx a ha => by
  rcases List.mem_cons.mp hx with rfl | hx
  · obtain ⟨y, hy, ha⟩ := mem_tG.mp ha
    cases hy
  · exact h.ow x hx a ha⟩
theorem PcsOf.nil {cut : Nat} {bs : List Int} : PcsOf cut bs 0 [] := ⟨rfl, fun j p h => by cases h⟩
theorem PcsOf.more {cut : Nat} {bs : List Int} {n : Nat} {new : List PT} {x : PT} (h : PcsOf cut bs n new) (e : x.place = cut + n ∧ x.last = pcL bs n ∧ x.bits = pcB bs n) : PcsOf cut bs (n + 1) (new ++ [x]) := ⟨by rw [List.length_append, h.len]; rfl, fun j p hp => by
  by_cases hj : j < new.length
  · rw [List.getElem?_append_left hj] at hp
    exact h.all j p hp
  · have hl := h.len
    rw [List.getElem?_append_right (by omega)] at hp
    have e0 : j - new.length = 0 := by
      have := (List.getElem?_eq_some_iff.mp hp).1
      simp at this
      omega
    rw [e0] at hp
    cases hp
    have : j = n := by omega
    rw [this]
    exact e⟩
theorem rgc40 {l : Nat} (hl : l ≤ 100000) : RgC 0 (l : Int) 40 ((l + 39) / 40) := by
  have hs : Builtin.Range.rangeSize 0 (l : Int) 40 = if (0 : Int) < l then ((l : Int) - 0 - 1) / 40 + 1 else 0 := by
    unfold Builtin.Range.rangeSize
    rw [if_pos (by decide)]
  have hz : Builtin.Range.rangeSize 0 (l : Int) 40 = (((l + 39) / 40 : Nat) : Int) := by
    rw [hs]
    by_cases z : l = 0
    · subst z
      rw [if_neg (by omega)]
      rfl
    · rw [if_pos (by omega)]
      omega
  refine ⟨by decide, by decide, ?_, hz⟩
  unfold Builtin.Range.small
  rw [fits (i := 0) (by omega) (by omega), fits (i := (l : Int)) (by omega) (by omega), fits (i := 40) (by omega) (by omega), hz, fits (i := (((l + 39) / 40 : Nat) : Int)) (by omega) (by omega), if_pos (by decide), fits (i := (l : Int) + (40 - 1)) (by omega) (by omega), Bool.or_true]
  rfl
theorem pc_cut (bs : List Int) (j : Nat) : cutV (bs.map L2.V.int) (some (0 + (j : Int) * 40)) (some (0 + (j : Int) * 40 + 40)) = (pcB bs j).map L2.V.int := by
  have := cut_mid (bs.map L2.V.int) (40 * j) (40 * j + 40) (by omega)
  rw [show (0 + (j : Int) * 40) = ((40 * j : Nat) : Int) by omega, show (((40 * j : Nat) : Int) + 40) = ((40 * j + 40 : Nat) : Int) by omega, this]
  unfold pcB
  rw [List.map_take, List.map_drop]
  congr 1
  omega
theorem sc_head_of : FnScope ["number", "answer", "comes", "last"] ["number", "answer", "comes", "last"] (defScope s_head_of) := ⟨rfl, rfl, rfl, by decide +kernel, rfl, by decide +kernel, by decide +kernel⟩
theorem ok_head_of {f cN : Addr} {fd : FuncData} {k : Nat} {t0 : Tok} (F : Fun K "head_of" "head_of" s_head_of f fd) (g_NUMBER_BITS : mg "NUMBER_BITS" = some (.int 3 t0)) (c_number_bits : CalX P w K mg base k "number_bits" ["number", "many"] (spNbX cN)) : FnOk P w K mg base CX0 (k + 1) f fd ["number", "answer", "comes", "last"] spHead := by
  have sc := sc_head_of
  refine F.ok sc (fun vs H Q E h => ?_) (fun cdv A outer s H vs Q E hr h => ?_)
  · obtain ⟨n, a, c, l, rfl, _⟩ := h
    rfl
  · obtain ⟨n, a, c, l, rfl, n0, n8, a0, a8, q⟩ := h
    refine ⟨_, (pss_one (ps_ret (pe_op op_cat (pe_op op_cat (pe_callF c_number_bits hr (by rfl) (pa_cons (pv 0) (pa_cons (pe_glob (v := .int 3) (by rfl) g_NUMBER_BITS ⟨_, rfl⟩) pa_nil))) (pe_callF c_number_bits hr (by rfl) (pa_cons (pv 1) (pa_cons (pe_glob (v := .int 3) (by rfl) g_NUMBER_BITS ⟨_, rfl⟩) pa_nil)))) (pe_lst (pa_cons (pv 2) (pa_cons (pv 3) pa_nil)))))), ?_⟩
    refine ⟨_, rfl, n, 3, rfl, (fun m e _ _ _ H1 p1 s1 n1 e1 => ?_), (fun no => by rw [show (3 : Int).toNat = 3 from rfl] at no; omega)⟩
    obtain rfl : m = 3 := by omega
    have R1 : Rn K H [] [] [tL p1 ((wr 3 n).map V.int)] H1 := Rn.start0.newS s1 n1 e1
    refine ⟨_, rfl, a, 3, rfl, (fun m e _ _ _ H2 p2 s2 n2 e2 => ?_), (fun no => by rw [show (3 : Int).toNat = 3 from rfl] at no; omega)⟩
    obtain rfl : m = 3 := by omega
    have R2 := R1.newS s2 n2 e2
    refine ⟨p1, p2, _, _, rfl, rfl, R2.at 1 rfl, R2.at 0 rfl, ?_, fun p3 n3 => ?_⟩
    · rw [List.length_map, List.length_map, wr_len, wr_len]
      decide
    have R3 := R2.newL (xs := (wr 3 n).map V.int ++ (wr 3 a).map V.int) n3
    generalize upd H2 p3 (.lst ((wr 3 n).map V.int ++ (wr 3 a).map V.int)) = H3 at R3 ⊢
    refine ⟨_, rfl, _, rfl, (by show 2 ≤ sizeLine; decide), fun p4 n4 => ?_⟩
    have R4 := R3.newL (xs := [.int c, .int l]) n4
    generalize upd H3 p4 (.lst [.int c, .int l]) = H4 at R4 ⊢
    refine ⟨p3, p4, _, _, rfl, rfl, R4.at 1 rfl, R4.at 0 rfl, ?_, fun p5 n5 => ?_⟩
    · rw [List.length_append, List.length_map, List.length_map, wr_len, wr_len]
      show 8 ≤ sizeLine
      decide
    have R5 := R4.newL (xs := (headL n a c l).map V.int) n5
    have e5 : (wr 3 n).map V.int ++ (wr 3 a).map V.int ++ [.int c, .int l] = (headL n a c l).map V.int := by
      unfold headL
      rw [List.map_append, List.map_append]
      rfl
    rw [e5]
    exact q _ p5 R5.mv.toSame (R4.free n5) upd_same
theorem sc_has_form : FnScope ["number", "comes", "last", "piece"] ["number", "comes", "last", "piece"] (defScope s_has_form) := ⟨rfl, rfl, rfl, by decide +kernel, rfl, by decide +kernel, by decide +kernel⟩
theorem ok_has_form {f : Addr} {fd : FuncData} {k : Nat} {t0 : Tok} (F : Fun K "has_form" "has_form" s_has_form f fd) (n_len : mg "len" = none) (g_PIECE : mg "PIECE" = some (.int 40 t0)) : FnOk P w K mg base CX0 (k + 1) f fd ["number", "comes", "last", "piece"] (spForm K) := by
  have sc := sc_has_form
  refine F.ok sc (fun vs H Q E h => ?_) (fun cdv A outer s H vs Q E hr h => ?_)
  · obtain ⟨n, c, l, a, ns, rfl, _⟩ := h
    rfl
  · obtain ⟨n, c, l, a, ns, rfl, hS, q⟩ := h
    refine ⟨_, (pss_cons (ps_if (pt_cmpR op_eq (pv 1) pe_int (nomark _))
  (pss_one (ps_ret (pe_chain op_le op_le pe_int (pe_callB (call_lenK K rfl) (by rfl) n_len PySem.boot_len (pa_cons (pv 3) pa_nil)) (pe_glob (v := .int 40) (by rfl) g_PIECE ⟨_, rfl⟩))))
  pss_nil)
 (pss_one (ps_ret (pe_and (pe_cmpR op_eq (pv 0) pe_int (nomark _)) (pe_and (pe_cmpR op_eq (pv 2) pe_int (nomark _)) (pe_one (pe_cmpR op_eq (pe_callB (call_lenK K rfl) (by rfl) n_len PySem.boot_len (pa_cons (pv 3) pa_nil)) pe_int (nomark _)))))))), ?_⟩
    refine ⟨_, rfl, rfl, _, rfl, ite2 (fun e => ?_) (fun e => ?_)⟩
    · have e : c = 1 := V.int.inj (of_decide_eq_true e)
      refine ⟨_, rfl, a, _, rfl, .inl hS, _, _, rfl, rfl, _, rfl, ?_⟩
      have ef : formB n c l ns.length = decide (1 ≤ ns.length ∧ ns.length ≤ 40) := if_pos e
      rw [ef] at q
      rw [List.length_map]
      refine ite2 (fun e1 => ?_) (fun e1 => ?_)
      · have e1 := of_decide_eq_true e1
        refine ⟨_, _, rfl, rfl, ?_⟩
        have : decide (((ns.length : Nat) : Int) ≤ 40) = decide (1 ≤ ns.length ∧ ns.length ≤ 40) := by
          rw [decide_eq_decide]
          omega
        show Q (.bl (decide (((ns.length : Nat) : Int) ≤ 40))) H
        rw [this]
        exact q
      · have e1 : ¬ (1 : Int) ≤ ((ns.length : Nat) : Int) := fun y => e1 (decide_eq_true y)
        rw [decide_eq_false (show ¬ (1 ≤ ns.length ∧ ns.length ≤ 40) by omega)] at q
        exact q
    · have e : ¬ c = 1 := fun y => e (decide_eq_true (by rw [y]))
      have ef : formB n c l ns.length = decide (n = 0 ∧ l = 0 ∧ ns.length = 0) := if_neg e
      rw [ef] at q
      refine ⟨_, rfl, rfl, _, rfl, ite2 (fun e1 => ?_) (fun e1 => ?_)⟩
      · have e1 : n = 0 := V.int.inj (of_decide_eq_true e1)
        refine ⟨_, rfl, rfl, _, rfl, ite2 (fun e2 => ?_) (fun e2 => ?_)⟩
        · have e2 : l = 0 := V.int.inj (of_decide_eq_true e2)
          refine ⟨_, rfl, a, _, rfl, .inl hS, rfl, ?_⟩
          have ed : decide (V.int (((ns.map V.int).length : Nat) : Int) = V.int 0) = decide (n = 0 ∧ l = 0 ∧ ns.length = 0) := by
            rw [decide_eq_decide, List.length_map]
            refine ⟨fun z => ⟨e1, e2, by have := V.int.inj z; omega⟩, fun z => by rw [z.2.2]; rfl⟩
          rw [ed]
          exact q
        · have e2 : ¬ l = 0 := fun y => e2 (decide_eq_true (by rw [y]))
          rw [decide_eq_false (show ¬ (n = 0 ∧ l = 0 ∧ ns.length = 0) from fun z => e2 z.2.1)] at q
          exact q
      · have e1 : ¬ n = 0 := fun y => e1 (decide_eq_true (by rw [y]))
        rw [decide_eq_false (show ¬ (n = 0 ∧ l = 0 ∧ ns.length = 0) from fun z => e1 z.1)] at q
        exact q
theorem sc_parted : FnScope ["payload", "number", "answer", "comes", "last", "piece"] ["payload"] (defScope s_parted) := ⟨rfl, rfl, rfl, by decide +kernel, rfl, by decide +kernel, by decide +kernel⟩
def pNum (ns : List Int) : Int := bn (ns.take 3)
def pAns (ns : List Int) : Int := bn ((ns.drop 3).take 3)
def pCom (ns : List Int) : Int := ns.getD 6 0
def pLast (ns : List Int) : Int := ns.getD 7 0
def pForm (ns : List Int) : Bool := formB (pNum ns) (pCom ns) (pLast ns) (ns.drop 8).length
def spParted (K : PySem.W.Frag) (cB cF : Addr) : Sp := fun vs H Q E => ∃ (a : Addr) (ns : List Int), vs = [.ref a] ∧ SqL K H a (ns.map V.int) ∧ ns.length ≤ 10000 ∧
  (Bits ns → 8 ≤ ns.length → pForm ns = true → ∀ (H' : Hp) (t p : Addr), Same H H' → H p = none → H' p = some (.lst ((ns.drop 8).map V.int)) → SqT K H' t [.int (pNum ns), .int (pAns ns), .int (pCom ns), .int (pLast ns), .ref p] → Q (.ref t) H') ∧
  (Bits ns → (ns.length < 8 ∨ pForm ns = false) → RefAt cF "BadFrame" 0 H E) ∧
  (∀ (i : Nat) (z : Int), ns[i]? = some z → ¬ isB z → Bits (ns.take i) → RefAt cB "BadBit" i H E)
theorem eight {ns : List Int} (h : 8 ≤ ns.length) : (ns.drop 6).take 2 = [ns.getD 6 0, ns.getD 7 0] := by
  have e6 : ns.getD 6 0 = ns[6] := by rw [List.getD_eq_getElem?_getD, List.getElem?_eq_getElem (show 6 < ns.length by omega)]; rfl
  have e7 : ns.getD 7 0 = ns[7] := by rw [List.getD_eq_getElem?_getD, List.getElem?_eq_getElem (show 7 < ns.length by omega)]; rfl
  rw [e6, e7, List.drop_eq_getElem_cons (show 6 < ns.length by omega), List.drop_eq_getElem_cons (show 7 < ns.length by omega)]
  rfl
theorem ok_parted {f cB cF cN : Addr} {fd : FuncData} {k : Nat} {t0 t1 : Tok} (F : Fun K "parted" "parted" s_parted f fd) (n_len : mg "len" = none) (g_HEAD_BITS : mg "HEAD_BITS" = some (.int 8 t0)) (g_NUMBER_BITS : mg "NUMBER_BITS" = some (.int 3 t1)) (x_BadFrame : XcOk P w K mg base k "BadFrame" cF (spIni K cF "BadFrame" "at")) (c_check_bits : CalX P w K mg base (k + 1) "check_bits" ["bits"] (spCheckX K cB)) (c_bits_number : CalX P w K mg base (k + 1) "bits_number" ["bits"] (spBnX K cB cN)) (c_has_form : Cal P w K mg base (k + 1) "has_form" ["number", "comes", "last", "piece"] (spForm K)) : FnOk P w K mg base (L2.CX P w) (k + 2) f fd ["payload"] (spParted K cB cF) := by
  have sc := sc_parted
  refine F.okX sc (fun vs H Q E h => ?_) (fun cdv A outer s H vs Q E hr h => ?_)
  · obtain ⟨a, ns, rfl, _⟩ := h
    rfl
  · obtain ⟨a, ns, rfl, hS, hl, q, qf, qb⟩ := h
    refine ⟨_, (pss_cons (ps_expr (pe_callP c_check_bits hr (passes_call (takes_of rfl rfl rfl rfl) (fun _ _ _ _ h => h)) (by rfl) (pa_cons (pv 0) pa_nil)))
 (pss_cons (ps_if (pt_cmpR op_lt (pe_callB (call_lenK K rfl) (by rfl) n_len PySem.boot_len (pa_cons (pv 0) pa_nil)) (pe_glob (v := .int 8) (by rfl) g_HEAD_BITS ⟨_, rfl⟩) (nomark _))
  (pss_one (ps_raise rfl (takes_of rfl rfl rfl rfl) (pmk_c x_BadFrame hr (by rfl) (pa_cons pe_int pa_nil))))
  pss_nil)
 (pss_cons (ps_set (i := 1) sc.nd rfl (.inl rfl) (pe_callP c_bits_number hr (passes_call (takes_of rfl rfl rfl rfl) (fun _ _ _ _ h => h)) (by rfl) (pa_cons (pe_slice (sl_listK K rfl) (pv 0) po_none (po_some (pe_glob (v := .int 3) (by rfl) g_NUMBER_BITS ⟨_, rfl⟩))) pa_nil)))
 (pss_cons (ps_set (i := 2) sc.nd rfl (.inl rfl) (pe_callP c_bits_number hr (passes_call (takes_of rfl rfl rfl rfl) (fun _ _ _ _ h => h)) (by rfl) (pa_cons (pe_slice (sl_listK K rfl) (pv 0) (po_some (pe_glob (v := .int 3) (by rfl) g_NUMBER_BITS ⟨_, rfl⟩)) (po_some (pe_op op_mul pe_int (pe_glob (v := .int 3) (by rfl) g_NUMBER_BITS ⟨_, rfl⟩)))) pa_nil)))
 (pss_cons (ps_asg (pe_slice (sl_listK K rfl) (pv 0) (po_some (pe_op op_mul pe_int (pe_glob (v := .int 3) (by rfl) g_NUMBER_BITS ⟨_, rfl⟩))) (po_some (pe_glob (v := .int 8) (by rfl) g_HEAD_BITS ⟨_, rfl⟩))) (pg_lst rfl (pgs_cons (pg_name (i := 3) sc.nd rfl (.inl rfl)) (pgs_cons (pg_name (i := 4) sc.nd rfl (.inl rfl)) pgs_nil))))
 (pss_cons (ps_set (i := 5) sc.nd rfl (.inl rfl) (pe_slice (sl_listK K rfl) (pv 0) (po_some (pe_glob (v := .int 8) (by rfl) g_HEAD_BITS ⟨_, rfl⟩)) po_none))
 (pss_cons (ps_if (pt_not (pt_val (pe_callC c_has_form hr (by rfl) (pa_cons (pv 1) (pa_cons (pv 3) (pa_cons (pv 4) (pa_cons (pv 5) pa_nil)))))))
  (pss_one (ps_raise rfl (takes_of rfl rfl rfl rfl) (pmk_c x_BadFrame hr (by rfl) (pa_cons pe_int pa_nil))))
  pss_nil)
 (pss_one (ps_ret (pe_tup (pa_cons (pv 1) (pa_cons (pv 2) (pa_cons (pv 3) (pa_cons (pv 4) (pa_cons (pv 5) pa_nil))))))))))))))), ?_⟩
    have bad : ∀ {H3 : Hp}, Same H H3 → Bits ns → (ns.length < 8 ∨ pForm ns = false) → ∀ (H' : Hp) (d : Addr), Same H3 H' → H3 d = none → H' d = some (.xd [(("at" : Str), .int ((0 : Nat) : Int)), (("word" : Str), .str "BadFrame")]) → E (.ref cF) (some d) H' := fun s hb hf H' d s2 nd ed => qf hb hf H' d (s.trans s2) (s.free nd) ed
    refine ⟨_, rfl, a, ns, rfl, hS, by omega, (fun hb H1 s1 => ?_), qb⟩
    have q := q hb
    have hS1 := s1.seq hS
    refine ⟨_, rfl, a, _, rfl, .inl hS1, _, _, rfl, rfl, _, rfl, ite2 (fun e => ?_) (fun e => ?_)⟩
    · have e : ns.length < 8 := by
        have := of_decide_eq_true e
        rw [List.length_map] at this
        omega
      exact mk_inner (i := 0) (by decide) (fun H3 d s3 nd ed => bad s1 hb (.inl e) H3 d s3 nd ed)
    have e : 8 ≤ ns.length := by
      have : ¬ (((ns.map L2.V.int).length : Nat) : Int) < 8 := fun y => e (decide_eq_true y)
      rw [List.length_map] at this
      omega
    refine ⟨_, rfl, _, rfl, a, _, rfl, hS1, fun p1 n1 => ?_⟩
    have c1 : cutV (ns.map L2.V.int) none (some (3 : Int)) = (ns.take 3).map L2.V.int := by
      have := cut_to_n (ns.map L2.V.int) 3
      rw [List.map_take]
      exact this
    have c2 : cutV (ns.map L2.V.int) (some (3 : Int)) (some (6 : Int)) = ((ns.drop 3).take 3).map L2.V.int := by
      have := cut_mid (ns.map L2.V.int) 3 6 (by decide)
      rw [List.map_take, List.map_drop]
      exact this
    have c3 : cutV (ns.map L2.V.int) (some (6 : Int)) (some (8 : Int)) = ((ns.drop 6).take 2).map L2.V.int := by
      have := cut_mid (ns.map L2.V.int) 6 8 (by decide)
      rw [List.map_take, List.map_drop]
      exact this
    have c4 : cutV (ns.map L2.V.int) (some (8 : Int)) none = (ns.drop 8).map L2.V.int := by
      have := cut_from_n (ns.map L2.V.int) 8
      rw [List.map_drop]
      exact this
    have k1 : (ns.take 3).length = 3 := by rw [List.length_take]; omega
    have k2 : ((ns.drop 3).take 3).length = 3 := by rw [List.length_take, List.length_drop]; omega
    have b1 : Bits (ns.take 3) := bits_take hb 3
    have b2 : Bits ((ns.drop 3).take 3) := bits_take (fun z hz => hb z (List.mem_of_mem_drop hz)) 3
    rw [c1]
    have t1 := s1.trans (same_upd (o := .lst ((ns.take 3).map L2.V.int)) n1)
    refine ⟨p1, ns.take 3, rfl, SqL.of upd_same, by omega, (fun _ _ H2 s2 => ?_), (fun _ big => by omega), (fun i z hz nz => absurd (b1 z (List.mem_of_getElem? hz)) nz)⟩
    have t2 := t1.trans s2
    have hS2 := t2.seq hS
    clear t1 s2 n1 hS1
    refine name_by ?_
    dsimp only
    refine ⟨_, rfl, _, rfl, _, _, rfl, rfl, (by unfold CMul; omega), _, rfl, a, _, rfl, hS2, fun p2 n2 => ?_⟩
    rw [show ((2 : Int) * 3) = 6 from rfl, c2]
    have t3 := t2.trans (same_upd (o := .lst (((ns.drop 3).take 3).map L2.V.int)) n2)
    refine ⟨p2, (ns.drop 3).take 3, rfl, SqL.of upd_same, by omega, (fun _ _ H3 s3 => ?_), (fun _ big => by omega), (fun i z hz nz => absurd (b2 z (List.mem_of_getElem? hz)) nz)⟩
    have t4 := t3.trans s3
    have hS3 := t4.seq hS
    clear t2 t3 s3 n2 hS2
    refine name_by ?_
    dsimp only
    refine ⟨_, rfl, _, _, rfl, rfl, (by unfold CMul; omega), _, rfl, _, rfl, a, _, rfl, hS3, fun p3 n3 => ?_⟩
    rw [show ((2 : Int) * 3) = 6 from rfl, c3, eight e]
    have t5 := t4.trans (same_upd (o := .lst ([ns.getD 6 0, ns.getD 7 0].map L2.V.int)) n3)
    have hS4 := t5.seq hS
    refine ⟨p3, _, rfl, SqL.of upd_same, rfl, _, _, rfl, _, _, rfl, rfl, ?_⟩
    generalize upd H3 p3 (.lst ([ns.getD 6 0, ns.getD 7 0].map L2.V.int)) = H4 at t5 hS4 ⊢
    clear t4 n3 hS3
    refine ⟨_, rfl, _, rfl, a, _, rfl, hS4, fun p5 n5 => ?_⟩
    rw [c4]
    have t6 := t5.trans (same_upd (o := .lst ((ns.drop 8).map L2.V.int)) n5)
    have e6 : upd H4 p5 (.lst ((ns.drop 8).map L2.V.int)) p5 = some (.lst ((ns.drop 8).map L2.V.int)) := upd_same
    have n50 := t5.free n5
    generalize upd H4 p5 (.lst ((ns.drop 8).map L2.V.int)) = H5 at t6 e6 ⊢
    clear t5 hS4 n5
    refine name_by ?_
    dsimp only
    refine ⟨_, rfl, _, rfl, _, rfl, _, rfl, _, _, _, p5, ns.drop 8, rfl, SqL.of e6, _, rfl, ite2 (fun e1 => ?_) (fun e1 => ?_)⟩
    · have e1 : pForm ns = false := by
        show formB (bn (ns.take 3)) (ns.getD 6 0) (ns.getD 7 0) (ns.drop 8).length = false
        cases hf : formB (bn (ns.take 3)) (ns.getD 6 0) (ns.getD 7 0) (ns.drop 8).length with
        | false => rfl
        | true => rw [hf] at e1; cases e1
      exact mk_inner (i := 0) (by decide) (fun H7 d s7 nd ed => bad t6 hb (.inr e1) H7 d s7 nd ed)
    · have e1 : pForm ns = true := by
        show formB (bn (ns.take 3)) (ns.getD 6 0) (ns.getD 7 0) (ns.drop 8).length = true
        cases hf : formB (bn (ns.take 3)) (ns.getD 6 0) (ns.getD 7 0) (ns.drop 8).length with
        | true => rfl
        | false => rw [hf] at e1; exact absurd rfl e1
      refine ⟨_, rfl, _, rfl, _, rfl, _, rfl, _, rfl, (by show 5 ≤ sizeLine; decide), fun t nt => ?_⟩
      have s7 := same_upd (o := .tup [.int (pNum ns), .int (pAns ns), .int (pCom ns), .int (pLast ns), .ref p5]) nt
      exact q e e1 _ t p5 (t6.trans s7) n50 (s7 _ _ e6) (SqT.of upd_same)
theorem sc_Link_awaited : FnScope ["self"] ["self"] (defScope m_Link_awaited) := ⟨rfl, rfl, rfl, by decide +kernel, rfl, by decide +kernel, by decide +kernel⟩
theorem ok_Link_awaited {f CB CI CL : Addr} {fd : FuncData} {k : Nat} {t0 : Tok} (F : Fun K "awaited" "Link.awaited" m_Link_awaited f fd) (R : LkC K CL) (RI : InC K CI) (g_NUMBERS : mg "NUMBERS" = some (.int 8 t0)) : FnOk P w K mg base CX0 (k + 1) f fd ["self"] (spAw CB CI CL) := by
  have sc := sc_Link_awaited
  refine F.ok sc (fun vs H Q E h => ?_) (fun cdv A_ outer s H vs Q E hr h => ?_)
  · obtain ⟨A, S, rfl, _⟩ := h
    rfl
  · obtain ⟨A, S, rfl, hp, q⟩ := h
    refine ⟨_, (pss_one (ps_ret (pe_op op_mod (pe_fldK K rfl (pe_fldK K rfl (pv 0))) (pe_glob (v := .int 8) (by rfl) g_NUMBERS ⟨_, rfl⟩)))), ?_⟩
    have R0 : Rn K H (tLk CB CI CL A S).ft [] (lkTs CB CI CL A S) H := Rn.start hp
    refine ⟨_, rfl, A.r, CL, A.dx, _, _, rfl, R0.at 0 rfl, R.cls, R.n1, rfl, A.i, CI, A.idx, _, _, rfl, R0.at 4 rfl, RI.cls, RI.n1, rfl, _, _, rfl, rfl, ?_⟩
    exact ⟨(by show (0 : Int) < 8; decide), q⟩
theorem sc_Link_idle : FnScope ["self"] ["self"] (defScope m_Link_idle) := ⟨rfl, rfl, rfl, by decide +kernel, rfl, by decide +kernel, by decide +kernel⟩
theorem ok_Link_idle {f CB CI CL : Addr} {fd : FuncData} {k : Nat}  (F : Fun K "idle" "Link.idle" m_Link_idle f fd) (R : LkC K CL) (n_len : mg "len" = none) : FnOk P w K mg base CX0 (k + 1) f fd ["self"] (spIdle CB CI CL) := by
  have sc := sc_Link_idle
  refine F.ok sc (fun vs H Q E h => ?_) (fun cdv A_ outer s H vs Q E hr h => ?_)
  · obtain ⟨A, S, rfl, _⟩ := h
    rfl
  · obtain ⟨A, S, rfl, hp, q⟩ := h
    refine ⟨_, (pss_one (ps_ret (pe_and (pe_cmpR op_eq (pe_callB (call_lenK K rfl) (by rfl) n_len PySem.boot_len (pa_cons (pe_fldK K rfl (pv 0)) pa_nil)) pe_int (nomark _)) (pe_one (pe_cmpR op_eq (pe_callB (call_lenK K rfl) (by rfl) n_len PySem.boot_len (pa_cons (pe_fldK K rfl (pv 0)) pa_nil)) pe_int (nomark _)))))), ?_⟩
    have R0 : Rn K H (tLk CB CI CL A S).ft [] (lkTs CB CI CL A S) H := Rn.start hp
    refine ⟨_, rfl, A.r, CL, A.dx, _, _, rfl, R0.at 0 rfl, R.cls, R.n3, rfl, A.q, _, rfl, .inl (SqL.of (R0.at 2 rfl)), rfl, _, rfl, ite2 (fun e => ?_) (fun e => ?_)⟩
    · have e : S.queue.length = 0 := by
        have := V.int.inj (of_decide_eq_true e)
        rw [List.length_map] at this
        omega
      refine ⟨_, rfl, A.r, CL, A.dx, _, _, rfl, R0.at 0 rfl, R.cls, R.n4, rfl, A.s, _, rfl, .inl (SqL.of (R0.at 3 rfl)), rfl, ?_⟩
      have ed : decide (V.int (((refsP S.sent).length : Nat) : Int) = V.int 0) = decide (S.queue.length = 0 ∧ S.sent.length = 0) := by
        rw [decide_eq_decide, List.length_map]
        refine ⟨fun z => ⟨e, by have := V.int.inj z; omega⟩, fun z => by rw [z.2]; rfl⟩
      rw [ed]
      exact q
    · have e : ¬ S.queue.length = 0 := fun y => e (decide_eq_true (by rw [List.length_map, y]; rfl))
      rw [decide_eq_false (show ¬ (S.queue.length = 0 ∧ S.sent.length = 0) from fun z => e z.1)] at q
      exact q
theorem sc_Link_open_places : FnScope ["self", "place", "last", "bits"] ["self"] (defScope m_Link_open_places) := ⟨rfl, rfl, rfl, by decide +kernel, rfl, by decide +kernel, by decide +kernel⟩
theorem ok_Link_open_places {f CB CI CL : Addr} {fd : FuncData} {k : Nat}  (F : Fun K "open_places" "Link.open_places" m_Link_open_places f fd) (R : LkC K CL) (n_sorted : mg "sorted" = none) : FnOk P w K mg base CX0 (k + 1) f fd ["self"] (spOpen K CB CI CL) := by
  have sc := sc_Link_open_places
  refine F.ok sc (fun vs H Q E h => ?_) (fun cdv A_ outer s H vs Q E hr h => ?_)
  · obtain ⟨A, S, rfl, _⟩ := h
    rfl
  · obtain ⟨A, S, rfl, hp, ht, hl, q⟩ := h
    refine ⟨_, (pss_one (ps_ret (pe_callB (cr_sortedLK K rfl) (by rfl) n_sorted (by decide +kernel) (pa_cons (pe_lc (own := [("place", 1), ("last", 2), ("bits", 3)]) (g := (gTup K 3 (gCons (gName 1) (gCons (gName 2) (gCons (gName 3) gNil))))) (by rfl) sc.nd (pi_listK K rfl (pe_fldK K rfl (pv 0))) (blkOk_by (own := [("place", 1), ("last", 2), ("bits", 3)]) (N := ["self", "place", "last", "bits"]) (sc := defScope m_Link_open_places) (by decide +kernel)) (fun _ _ _ _ _ => (pg_tup rfl (pgs_cons (pg_name (i := 1) sc.nd rfl (Or.inl rfl)) (pgs_cons (pg_name (i := 2) sc.nd rfl (Or.inl rfl)) (pgs_cons (pg_name (i := 3) sc.nd rfl (Or.inl rfl)) pgs_nil))))) (fun _ _ _ _ _ => pts_nil) (fun _ _ _ _ _ => (pv 1))) pa_nil)))), ?_⟩
    have R0 : Rn K H (tLk CB CI CL A S).ft [] (lkTs CB CI CL A S) H := Rn.start hp
    refine ⟨_, rfl, A.r, CL, A.dx, _, _, rfl, R0.at 0 rfl, R.cls, R.n4, rfl, A.s, rfl, ⟨_, SqL.of (R0.at 3 rfl)⟩, fun D nD => ?_⟩
    refine lc_list (K := K) (a := A.s) (xs := refsP S.sent) (fun i H' => Rn K H (tLk CB CI CL A S).ft [] (tL D (((S.sent.take i).map fun p => (p.place : Int)).map V.int) :: lkTs CB CI CL A S) H' ∧ Same H H') ⟨R0.newL nD, same_upd nD⟩ (fun i H' _ h => SqL.of (h.1.at 4 rfl)) ?_ ?_
    · rintro i x H1 hx ⟨R1, s1⟩
      obtain ⟨p, hpi, rfl⟩ : ∃ p, S.sent[i]? = some p ∧ x = V.ref p.t := by
        rw [List.getElem?_map] at hx
        cases e : S.sent[i]? with
        | none => rw [e] at hx; cases hx
        | some p => rw [e] at hx; exact ⟨p, rfl, (Option.some.inj hx).symm⟩
      have hi : i < S.sent.length := (List.getElem?_eq_some_iff.mp hpi).1
      have htp : SqT K H1 p.t (ptV p) := same_t s1 (ht (p.t, ptV p) (List.mem_map.mpr ⟨p, List.mem_of_getElem? hpi, rfl⟩))
      refine ⟨p.t, _, rfl, htp, rfl, _, _, rfl, _, _, rfl, _, _, rfl, rfl, rfl, tYes_by (iteT ?_)⟩
      refine ⟨_, rfl, _, R1.at 0 rfl, ?_, ?_, ?_⟩
      · rw [List.length_map, List.length_map, List.length_take]
        exact sz4l (by omega)
      · rw [take_more hpi, List.map_append, List.map_append]
        exact R1.put 0 rfl
      · exact fun a o e => by
          rw [upd_ne (ne_of_none e nD)]
          exact s1 a o e
    · rintro H1 ⟨R1, s1⟩
      rw [List.length_map, List.take_length] at R1
      refine ⟨D, _, rfl, SqL.of (R1.at 0 rfl), fun p ms np pm up => ?_⟩
      exact q _ p ms ⟨pm, up⟩ (s1.trans (same_upd np)) (s1.free np) upd_same
theorem sc_Link_unanswered : FnScope ["self", "place"] ["self"] (defScope m_Link_unanswered) := ⟨rfl, rfl, rfl, by decide +kernel, rfl, by decide +kernel, by decide +kernel⟩
theorem ok_Link_unanswered {f CB CI CL : Addr} {fd : FuncData} {k : Nat} {t0 : Tok} (F : Fun K "unanswered" "Link.unanswered" m_Link_unanswered f fd) (R : LkC K CL) (g_NUMBERS : mg "NUMBERS" = some (.int 8 t0)) (c_Link_open_places : CalM CX0 P w K mg base k CL "open_places" ["self"] (spOpen K CB CI CL)) : FnOk P w K mg base CX0 (k + 1) f fd ["self"] (spUnans K CB CI CL) := by
  have sc := sc_Link_unanswered
  refine F.ok sc (fun vs H Q E h => ?_) (fun cdv A_ outer s H vs Q E hr h => ?_)
  · obtain ⟨A, S, rfl, _⟩ := h
    rfl
  · obtain ⟨A, S, rfl, hp, ht, hl, q⟩ := h
    refine ⟨_, (pss_one (ps_ret (pe_lc (own := [("place", 1)]) (g := gName 1) (by rfl) sc.nd (pi_listK K rfl (pe_methC0 (pv 0) c_Link_open_places hr)) (blkOk_by (own := [("place", 1)]) (N := ["self", "place"]) (sc := defScope m_Link_unanswered) (by decide +kernel)) (fun _ _ _ _ _ => (pg_name (i := 1) sc.nd rfl (Or.inl rfl))) (fun _ _ _ _ _ => pts_nil) (fun _ _ _ _ _ => (pe_op op_mod (pv 1) (pe_glob (v := .int 8) (by rfl) g_NUMBERS ⟨_, rfl⟩)))))), ?_⟩
    have R0 : Rn K H (tLk CB CI CL A S).ft [] (lkTs CB CI CL A S) H := Rn.start hp
    refine ⟨_, rfl, A.r, A.dx, _, rfl, R0.at 0 rfl, rfl, A, S, rfl, hp, ht, hl, fun H1 p ms hms s1 np ep => ?_⟩
    have hml : ms.length = S.sent.length := by rw [hms.perm.length_eq, List.length_map]
    refine ⟨p, rfl, ⟨_, SqL.of ep⟩, fun D nD => ?_⟩
    refine lc_list (K := K) (a := p) (xs := ms.map V.int) (fun i H' => Rn K H1 [] [] [tL D (((ms.take i).map fun z => z % 8).map V.int)] H') (Rn.start0.newL nD) (fun i H' _ h => SqL.of (h.mv.toSame _ _ ep)) ?_ ?_
    · rintro i x H2 hx R2
      obtain ⟨z, hz, rfl⟩ := getI hx
      have hi : i < ms.length := (List.getElem?_eq_some_iff.mp hz).1
      refine ⟨rfl, tYes_by (iteT ?_)⟩
      refine ⟨_, rfl, _, _, rfl, rfl, (by show (0 : Int) < 8; decide), _, R2.at 0 rfl, ?_, ?_⟩
      · rw [List.length_map, List.length_map, List.length_take]
        exact sz4l (by omega)
      · rw [take_more hz, List.map_append, List.map_append]
        exact R2.put 0 rfl
    · rintro H2 R2
      rw [List.length_map, List.take_length] at R2
      exact q _ D ms hms (s1.trans R2.mv.toSame) (s1.free nD) (R2.at 0 rfl)
theorem sc_Link_end_answered : FnScope ["self", "answer", "places", "on", "piece"] ["self", "answer"] (defScope m_Link_end_answered) := ⟨rfl, rfl, rfl, by decide +kernel, rfl, by decide +kernel, by decide +kernel⟩
theorem ok_Link_end_answered {f CB CI CL : Addr} {fd : FuncData} {k : Nat} {t0 : Tok} (F : Fun K "end_answered" "Link.end_answered" m_Link_end_answered f fd) (R : LkC K CL) (n_len : mg "len" = none) (g_NUMBERS : mg "NUMBERS" = some (.int 8 t0)) (c_Link_open_places : CalM CX0 P w K mg base k CL "open_places" ["self"] (spOpen K CB CI CL)) : FnOk P w K mg base CX0 (k + 1) f fd ["self", "answer"] (spEnd K CB CI CL) := by
  have sc := sc_Link_end_answered
  refine F.ok sc (fun vs H Q E h => ?_) (fun cdv A_ outer s H vs Q E hr h => ?_)
  · obtain ⟨A, S, a, rfl, _⟩ := h
    rfl
  · obtain ⟨A, S, a, rfl, hp, ht, hl, a0, a8, q⟩ := h
    refine ⟨_, (pss_cons (ps_set (i := 2) sc.nd rfl (.inr rfl) (pe_methC0 (pv 0) c_Link_open_places hr))
 (pss_cons (ps_if (pt_cmpR op_eq (pe_callB (call_lenK K rfl) (by rfl) n_len PySem.boot_len (pa_cons (pv 2) pa_nil)) pe_int (nomark _))
  (pss_one ps_retN)
  pss_nil)
 (pss_cons (ps_set (i := 3) sc.nd rfl (.inr rfl) (pe_op op_mod (pe_op op_sub (pv 1) (pe_ix (ix_listK K rfl) (pv 2) pe_int (fun _ _ => rfl))) (pe_glob (v := .int 8) (by rfl) g_NUMBERS ⟨_, rfl⟩)))
 (pss_one (ps_if (pt_cmpR op_le (pv 3) (pe_callB (call_lenK K rfl) (by rfl) n_len PySem.boot_len (pa_cons (pv 2) pa_nil)) (nomark _))
  (pss_one (ps_fldK K rfl (pv 0) (pe_lc (own := [("piece", 4)]) (g := gName 4) (by rfl) sc.nd (pi_listK K rfl (pe_fldK K rfl (pv 0))) (blkOk_by (own := [("piece", 4)]) (N := ["self", "answer", "places", "on", "piece"]) (sc := defScope m_Link_end_answered) (by decide +kernel)) (fun _ _ _ _ _ => (pg_name (i := 4) sc.nd rfl (Or.inl rfl))) (fun _ _ _ _ _ => (pts_one (pt_cmpR op_ge (pe_ix (ix_tupK K rfl) (pv 4) pe_int (fun _ _ => rfl)) (pe_op op_add (pe_ix (ix_listK K rfl) (pv 2) pe_int (fun _ _ => rfl)) (pv 3)) (nomark _)))) (fun _ _ _ _ _ => (pv 4)))))
  pss_nil))))), ?_⟩
    have R0 : Rn K H (tLk CB CI CL A S).ft [] (lkTs CB CI CL A S) H := Rn.start hp
    refine ⟨_, rfl, A.r, A.dx, _, rfl, R0.at 0 rfl, rfl, A, S, rfl, hp, ht, hl, fun H1 p ms hms s1 np ep => ?_⟩
    have hml : ms.length = S.sent.length := by rw [hms.perm.length_eq, List.length_map]
    have R1 := R0.newS s1 np ep
    refine name_by ?_
    dsimp only
    refine ⟨_, rfl, p, _, rfl, .inl (SqL.of ep), rfl, _, rfl, ite2 (fun e => ?_) (fun e => ?_)⟩
    · have e : ms = [] := by
        have := V.int.inj (of_decide_eq_true e)
        rw [List.length_map] at this
        cases ms with
        | nil => rfl
        | cons z r => exact absurd this (by show ¬ (((r.length + 1 : Nat)) : Int) = 0; omega)
      have R2 := R1.sel [1, 2, 3, 4, 5, 6, 7, 8] (by decide)
      refine q H1 A.s ms hms ?_
      rw [show ansL S.sent ms a = S.sent from if_pos e]
      exact R2.out
    · have e : ms ≠ [] := fun z => e (decide_eq_true (by rw [z]; rfl))
      obtain ⟨m0, h0⟩ := getElem?_ex (show 0 < ms.length from List.length_pos_iff.mpr e)
      have hm0 : (ms.map V.int)[0]? = some (.int m0) := by rw [List.getElem?_map, h0]; rfl
      have g0 : ms.getD 0 0 = m0 := by rw [List.getD_eq_getElem?_getD, h0]; rfl
      refine ⟨_, rfl, _, rfl, p, _, _, _, rfl, rfl, SqL.of ep, atI_nat (j := 0) hm0, _, _, rfl, rfl, _, _, rfl, rfl, (by show (0 : Int) < 8; decide), ?_⟩
      refine name_by ?_
      dsimp only
      refine ⟨_, rfl, _, rfl, p, _, rfl, .inl (SqL.of ep), _, _, rfl, rfl, _, rfl, ite2 (fun e1 => ?_) (fun e1 => ?_)⟩
      · have e1 : (a - m0) % 8 ≤ (ms.length : Int) := by
          have := of_decide_eq_true e1
          rw [List.length_map] at this
          exact this
        refine ⟨_, rfl, A.r, CL, A.dx, _, _, rfl, R1.at 1 rfl, R.cls, R.n4, rfl, A.s, rfl, ⟨_, SqL.of (R1.at 4 rfl)⟩, fun D nD => ?_⟩
        refine lc_list (K := K) (a := A.s) (xs := refsP S.sent) (fun i H' => Rn K H (tLk CB CI CL A S).ft [] (tL D (refsP ((S.sent.take i).filter fun x => decide (m0 + (a - m0) % 8 ≤ (x.place : Int)))) :: tL p (ms.map V.int) :: lkTs CB CI CL A S) H' ∧ Same H H') ⟨R1.newL nD, s1.trans (same_upd nD)⟩ (fun i H' _ h => SqL.of (h.1.at 5 rfl)) ?_ ?_
        · rintro i x H2 hx ⟨R2, s2⟩
          obtain ⟨x, hpi, rfl⟩ : ∃ p, S.sent[i]? = some p ∧ x = V.ref p.t := by
            rw [List.getElem?_map] at hx
            cases e : S.sent[i]? with
            | none => rw [e] at hx; cases hx
            | some p => rw [e] at hx; exact ⟨p, rfl, (Option.some.inj hx).symm⟩
          have hi : i < S.sent.length := (List.getElem?_eq_some_iff.mp hpi).1
          have htp : SqT K H2 x.t (ptV x) := same_t s2 (ht (x.t, ptV x) (List.mem_map.mpr ⟨x, List.mem_of_getElem? hpi, rfl⟩))
          refine ⟨rfl, ?_⟩
          refine ⟨_, rfl, x.t, _, _, _, rfl, rfl, htp, atI_nat (j := 0) rfl, _, rfl, p, _, _, _, rfl, rfl, SqL.of (R2.at 1 rfl), atI_nat (j := 0) hm0, _, rfl, _, _, rfl, rfl, _, _, rfl, rfl, _, rfl, ite2 (fun e2 => ?_) (fun e2 => ?_)⟩
          · refine ⟨_, rfl, _, R2.at 0 rfl, ?_, ?_, ?_⟩
            · rw [List.length_map]
              exact sz4l (Nat.lt_of_le_of_lt (List.length_filter_le _ _) (by rw [List.length_take]; omega))
            · rw [take_more hpi, List.filter_append, show [x].filter (fun x : PT => decide (m0 + (a - m0) % 8 ≤ (x.place : Int))) = [x] from List.filter_cons_of_pos (by exact e2)]
              show Rn K H _ [] (tL D (refsP (_ ++ [x])) :: _) _
              unfold refsP
              rw [List.map_append]
              exact R2.put 0 rfl
            · exact fun a o e => by
                rw [upd_ne (ne_of_none e (s1.free nD))]
                exact s2 _ o e
          · rw [take_more hpi, List.filter_append, show [x].filter (fun x : PT => decide (m0 + (a - m0) % 8 ≤ (x.place : Int))) = [] from List.filter_cons_of_neg (by exact e2), List.append_nil]
            exact ⟨R2, s2⟩
        · rintro H2 ⟨R2, s2⟩
          rw [List.length_map, List.take_length] at R2
          refine ⟨_, rfl, A.r, CL, A.dx, _, rfl, R2.at 2 rfl, R.cls, R.n4, (by show 6 < 1000; decide), ?_⟩
          have e4 : putF "sent" (.ref D) (lkF A.br A.i (S.cut : Int) A.q A.s S.owes) = lkF A.br A.i (S.cut : Int) A.q D S.owes := rfl
          rw [e4]
          have R3 := (R2.put (o' := .ins CL A.dx (lkF A.br A.i (S.cut : Int) A.q D S.owes)) 2 rfl).sel [0, 3, 4, 1, 6, 7, 8, 9] (by decide)
          refine q _ D ms hms ?_
          rw [show ansL S.sent ms a = S.sent.filter fun x => decide (m0 + (a - m0) % 8 ≤ (x.place : Int)) by unfold ansL; rw [if_neg e, g0, if_pos e1]]
          exact R3.out
      · have e1 : ¬ (a - m0) % 8 ≤ (ms.length : Int) := fun y => e1 (decide_eq_true (by rw [List.length_map]; exact y))
        have R2 := R1.sel [1, 2, 3, 4, 5, 6, 7, 8] (by decide)
        refine q H1 A.s ms hms ?_
        rw [show ansL S.sent ms a = S.sent by unfold ansL; rw [if_neg e, g0, if_neg e1]]
        exact R2.out
theorem sc_Link_frame : FnScope ["self", "place", "last", "bits"] ["self"] (defScope m_Link_frame) := ⟨rfl, rfl, rfl, by decide +kernel, rfl, by decide +kernel, by decide +kernel⟩
theorem six0 (n : Nat) : seqIndex? 0 (n + 1) = some 0 := by
  unfold seqIndex?
  simp
theorem lt_len (x : PT) (l : List PT) : (0 : Int) < (((refsP (x :: l)).length : Nat) : Int) := by
  rw [List.length_map, List.length_cons]
  omega
theorem ok_Link_frame {f CB CI CL : Addr} {fd : FuncData} {k : Nat} {t0 t1 : Tok} (F : Fun K "frame" "Link.frame" m_Link_frame f fd) (R : LkC K CL) (n_len : mg "len" = none) (g_WINDOW : mg "WINDOW" = some (.int 4 t1)) (g_NUMBERS : mg "NUMBERS" = some (.int 8 t0)) (c_head_of : Cal P w K mg base k "head_of" ["number", "answer", "comes", "last"] spHead) (c_Link_awaited : CalM CX0 P w K mg base k CL "awaited" ["self"] (spAw CB CI CL)) : FnOk P w K mg base CX0 (k + 1) f fd ["self"] (spFrame K CB CI CL) := by
  have sc := sc_Link_frame
  refine F.ok sc (fun vs H Q E h => ?_) (fun cdv A_ outer s H vs Q E hr h => ?_)
  · obtain ⟨A, S, rfl, _⟩ := h
    rfl
  · obtain ⟨A, S, rfl, hp, hpc, hbl, hsl, qm, qo, qn⟩ := h
    refine ⟨_, (pss_cons (ps_if (PW.pt (pw_and (pt_cmpR op_gt (pe_callB (call_lenK K rfl) (by rfl) n_len PySem.boot_len (pa_cons (pe_fldK K rfl (pv 0)) pa_nil)) pe_int (nomark _)) (pw_and1 (pt_cmpR op_lt (pe_callB (call_lenK K rfl) (by rfl) n_len PySem.boot_len (pa_cons (pe_fldK K rfl (pv 0)) pa_nil)) (pe_glob (v := .int 4) (by rfl) g_WINDOW ⟨_, rfl⟩) (nomark _)))))
  (pss_one (ps_expr (pe_bmK K rfl PySem.F.plainAttrs_list PySem.F.slot_list_append PySem.F.type_list_append mt_append (pe_fldK K rfl (pv 0)) (pa_cons (pe_bmK K rfl PySem.F.plainAttrs_list PySem.F.slot_list_pop PySem.F.type_list_pop mt_popAt (pe_fldK K rfl (pv 0)) (pa_cons pe_int pa_nil)) pa_nil))))
  (pss_one (ps_if (pt_cmpR op_gt (pe_callB (call_lenK K rfl) (by rfl) n_len PySem.boot_len (pa_cons (pe_fldK K rfl (pv 0)) pa_nil)) pe_int (nomark _))
  (pss_one (ps_expr (pe_bmK K rfl PySem.F.plainAttrs_list PySem.F.slot_list_append PySem.F.type_list_append mt_append (pe_fldK K rfl (pv 0)) (pa_cons (pe_bmK K rfl PySem.F.plainAttrs_list PySem.F.slot_list_pop PySem.F.type_list_pop mt_popAt (pe_fldK K rfl (pv 0)) (pa_cons pe_int pa_nil)) pa_nil))))
  (pss_one (ps_if (pt_truth (pe_fldK K rfl (pv 0)) (by intro _; rfl))
  (pss_cons (ps_fldK K rfl (pv 0) pe_bl)
 (pss_one (ps_ret (pe_callC c_head_of hr (by rfl) (pa_cons pe_int (pa_cons (pe_methC0 (pv 0) c_Link_awaited hr) (pa_cons pe_int (pa_cons pe_int pa_nil))))))))
  (pss_one (ps_ret pe_non)))))))
 (pss_cons (ps_fldK K rfl (pv 0) pe_bl)
 (pss_cons (ps_asg (pe_ix (ix_listK K rfl) (pe_fldK K rfl (pv 0)) (pe_un un_neg pe_int) (fun _ _ => rfl)) (pg_tup rfl (pgs_cons (pg_name (i := 1) sc.nd rfl (.inl rfl)) (pgs_cons (pg_name (i := 2) sc.nd rfl (.inl rfl)) (pgs_cons (pg_name (i := 3) sc.nd rfl (.inl rfl)) pgs_nil)))))
 (pss_one (ps_ret (pe_op op_cat (pe_callC c_head_of hr (by rfl) (pa_cons (pe_op op_mod (pv 1) (pe_glob (v := .int 8) (by rfl) g_NUMBERS ⟨_, rfl⟩)) (pa_cons (pe_methC0 (pv 0) c_Link_awaited hr) (pa_cons pe_int (pa_cons (pv 2) pa_nil))))) (pv 3))))))), ?_⟩
    have R0 : Rn K H (tLk CB CI CL A S).ft [] (lkTs CB CI CL A S) H := Rn.start hp
    refine if_by (J := fun σ1 H1 => ∃ q' s' x, σ1 = [some (.ref A.r), none, none, none] ∧ frMove S.queue S.sent = some (q', s', x) ∧ (x ∈ S.queue ++ S.sent) ∧ s'.length ≤ 1000 ∧ Rn K H (tLk CB CI CL A S).ft [] (lkTs CB CI CL A { S with queue := q', sent := s' ++ [x] }) H1) ?_ (fun rest => ?_)
    · rintro σ1 H1 ⟨q', s', x, rfl, em, hx, hs', R1⟩
      refine ⟨_, rfl, A.r, CL, A.dx, _, rfl, R1.at 0 rfl, R.cls, R.n5, (by show 6 < 1000; decide), ?_⟩
      have e4 : putF "owes" (.bl false) (lkF A.br A.i (S.cut : Int) A.q A.s S.owes) = lkF A.br A.i (S.cut : Int) A.q A.s false := rfl
      rw [e4]
      have R2 : Rn K H (tLk CB CI CL A S).ft [] (lkTs CB CI CL A { S with queue := q', sent := s' ++ [x], owes := false }) _ := (R1.put (o' := .ins CL A.dx (lkF A.br A.i (S.cut : Int) A.q A.s false)) 0 rfl)
      generalize upd H1 A.r (.ins CL A.dx (lkF A.br A.i (S.cut : Int) A.q A.s false)) = H2 at R2 ⊢
      clear R1 e4
      obtain ⟨k1, k2, k3⟩ := hpc x hx
      have kt : SqT K H2 x.t (ptV x) := R2.keepT k1
      have kb : H2 x.ba = some (.lst (x.bits.map V.int)) := R2.keep k3 k2
      have hbx := hbl x hx
      refine ⟨_, rfl, A.r, CL, A.dx, _, _, rfl, R2.at 0 rfl, R.cls, R.n4, rfl, _, rfl, A.s, _, _, _, rfl, rfl, SqL.of (R2.at 3 rfl), at_last (n := s'.length) (v := .ref x.t) (by simp) (by simp), x.t, _, rfl, kt, rfl, _, _, rfl, _, _, rfl, _, _, rfl, rfl, ?_⟩
      refine ⟨_, rfl, _, _, rfl, rfl, (by show (0 : Int) < 8; decide), ?_⟩
      refine ⟨_, rfl, A.r, A.dx, _, rfl, R2.at 0 rfl, rfl, A, { S with queue := q', sent := s' ++ [x], owes := false }, rfl, R2.hw.hs, ?_⟩
      refine ⟨_, rfl, (x.place : Int) % 8, (S.place : Int) % 8, 1, x.last, rfl, by omega, by omega, by omega, by omega, fun H3 p s3 np ep => ?_⟩
      have R3 := R2.newS s3 np ep
      have kb3 := s3 _ _ kb
      refine ⟨_, rfl, p, x.ba, _, _, rfl, rfl, ep, kb3, ?_, fun p2 np2 => ?_⟩
      · rw [List.length_map, List.length_map]
        refine Nat.le_trans (show _ ≤ 10000 by unfold headL; rw [List.length_append, List.length_append, wr_len, wr_len]; show 3 + 3 + 2 + _ ≤ 10000; omega) (by decide)
      rw [← List.map_append]
      have R4 := (R3.newL (xs := (headL ((x.place : Int) % 8) ((S.place : Int) % 8) 1 x.last ++ x.bits).map V.int) np2).sel [0, 2, 3, 4, 5, 6, 7, 8, 9] (by decide)
      exact qm q' s' x em _ p2 R4.out
    · obtain ⟨P, cut, queue, sent, owes, iP, place, kept, begun⟩ := S
      have hsl : sent.length ≤ 1000 := hsl
      rcases queue with _ | ⟨x, q'⟩
      · refine ⟨_, rfl, A.r, CL, A.dx, _, _, rfl, R0.at 0 rfl, R.cls, R.n3, rfl, A.q, _, rfl, .inl (SqL.of (R0.at 2 rfl)), _, _, rfl, rfl, _, rfl, iteF (iteF ?_)⟩
        rcases sent with _ | ⟨y, s'⟩
        · refine ⟨_, rfl, A.r, CL, A.dx, _, _, rfl, R0.at 0 rfl, R.cls, R.n4, rfl, A.s, _, rfl, .inl (SqL.of (R0.at 3 rfl)), _, _, rfl, rfl, _, rfl, iteF ?_⟩
          have em : frMove [] [] = none := rfl
          refine ⟨_, rfl, A.r, CL, A.dx, _, _, rfl, R0.at 0 rfl, R.cls, R.n5, rfl, owes, (by first | exact rfl | exact .inl rfl | exact .bl _), ite2 (fun e => ?_) (fun e => ?_)⟩
          · have eo : owes = true := e
            subst eo
            refine ⟨_, rfl, A.r, CL, A.dx, _, rfl, R0.at 0 rfl, R.cls, R.n5, (by show 6 < 1000; decide), ?_⟩
            have e4 : putF "owes" (.bl false) (lkF A.br A.i (cut : Int) A.q A.s true) = lkF A.br A.i (cut : Int) A.q A.s false := rfl
            rw [e4]
            have R2 : Rn K H _ [] (lkTs CB CI CL A ⟨P, cut, [], [], false, iP, place, kept, begun⟩) _ := (R0.put (o' := .ins CL A.dx (lkF A.br A.i (cut : Int) A.q A.s false)) 0 rfl)
            generalize upd H A.r (.ins CL A.dx (lkF A.br A.i (cut : Int) A.q A.s false)) = H2 at R2 ⊢
            refine ⟨_, rfl, A.r, A.dx, _, rfl, R2.at 0 rfl, rfl, A, ⟨P, cut, [], [], false, iP, place, kept, begun⟩, rfl, R2.hw.hs, ?_⟩
            refine ⟨0, (place : Int) % 8, 0, 0, rfl, by decide, by decide, by omega, by omega, fun H3 p s3 np ep => ?_⟩
            exact qo rfl rfl H3 p (R2.newS s3 np ep).out
          · have eo : owes = false := by cases owes with | false => rfl | true => exact absurd rfl e
            exact qn rfl eo
        · refine ⟨_, rfl, A.r, CL, A.dx, _, _, rfl, R0.at 0 rfl, R.cls, R.n4, rfl, A.s, _, rfl, .inl (SqL.of (R0.at 3 rfl)), _, _, rfl, rfl, _, rfl, ite2 (fun _ => ?_) (fun no => absurd (decide_eq_true (lt_len _ _)) no)⟩
          refine ⟨_, rfl, A.r, CL, A.dx, _, _, rfl, R0.at 0 rfl, R.cls, R.n4, rfl, .inl ⟨rfl, _, SqL.of (R0.at 3 rfl)⟩, _, rfl, A.r, CL, A.dx, _, _, rfl, R0.at 0 rfl, R.cls, R.n4, rfl, .inl ⟨rfl, _, SqL.of (R0.at 3 rfl)⟩, A.s, _, 0, 0, .ref y.t, rfl, rfl, R0.at 3 rfl, by decide, by decide, six0 _, rfl, ?_⟩
          have R1 := (R0.put (o' := .lst (refsP s')) 3 rfl).sel [1, 2, 3, 0, 4, 5, 6, 7] (by decide)
          refine ⟨A.s, _, _, rfl, rfl, R1.at 3 rfl, ?_, ?_⟩
          · rw [List.length_map]
            exact sz4l (by have : (y :: s').length ≤ 1000 := hsl; rw [List.length_cons] at this; omega)
          have R2 := (R1.put (o' := .lst (refsP s' ++ [.ref y.t])) 3 rfl).sel [1, 2, 3, 0, 4, 5, 6, 7] (by decide)
          refine rest _ _ ⟨[], s', y, rfl, rfl, List.mem_append_right _ (.head _), by have : (y :: s').length ≤ 1000 := hsl; rw [List.length_cons] at this; omega, ?_⟩
          have e5 : refsP (s' ++ [y]) = refsP s' ++ [.ref y.t] := List.map_append
          show Rn K H _ [] [_, _, _, tL A.s (refsP (s' ++ [y])), _, _, _, _] _
          rw [e5]
          exact R2
      · refine ⟨_, rfl, A.r, CL, A.dx, _, _, rfl, R0.at 0 rfl, R.cls, R.n3, rfl, A.q, _, rfl, .inl (SqL.of (R0.at 2 rfl)), _, _, rfl, rfl, _, rfl, ite2 (fun _ => ?_) (fun no => absurd (decide_eq_true (lt_len _ _)) no)⟩
        refine ⟨_, rfl, A.r, CL, A.dx, _, _, rfl, R0.at 0 rfl, R.cls, R.n4, rfl, A.s, _, rfl, .inl (SqL.of (R0.at 3 rfl)), _, _, rfl, rfl, _, rfl, ite2 (fun e => ?_) (fun e => ?_)⟩
        · have e : sent.length < 4 := by
            have h0 := of_decide_eq_true e
            have h1 : (((refsP sent).length : Nat) : Int) < 4 := h0
            rw [List.length_map] at h1
            omega
          refine ⟨_, rfl, A.r, CL, A.dx, _, _, rfl, R0.at 0 rfl, R.cls, R.n4, rfl, .inl ⟨rfl, _, SqL.of (R0.at 3 rfl)⟩, _, rfl, A.r, CL, A.dx, _, _, rfl, R0.at 0 rfl, R.cls, R.n3, rfl, .inl ⟨rfl, _, SqL.of (R0.at 2 rfl)⟩, A.q, _, 0, 0, .ref x.t, rfl, rfl, R0.at 2 rfl, by decide, by decide, six0 _, rfl, ?_⟩
          have R1 := (R0.put (o' := .lst (refsP q')) 2 rfl).sel [1, 2, 0, 3, 4, 5, 6, 7] (by decide)
          refine ⟨A.s, _, _, rfl, rfl, R1.at 3 rfl, ?_, ?_⟩
          · rw [List.length_map]
            exact sz4l (by omega)
          have R2 := (R1.put (o' := .lst (refsP sent ++ [.ref x.t])) 3 rfl).sel [1, 2, 3, 0, 4, 5, 6, 7] (by decide)
          refine rest _ _ ⟨q', sent, x, rfl, if_pos e, List.mem_append_left _ (.head _), hsl, ?_⟩
          have e5 : refsP (sent ++ [x]) = refsP sent ++ [.ref x.t] := List.map_append
          show Rn K H _ [] [_, _, _, tL A.s (refsP (sent ++ [x])), _, _, _, _] _
          rw [e5]
          exact R2
        · have e : ¬ sent.length < 4 := fun y => e (decide_eq_true (by show (((refsP sent).length : Nat) : Int) < 4; rw [List.length_map]; omega))
          rcases sent with _ | ⟨y, s'⟩
          · exact absurd (by decide) e
          refine ⟨_, rfl, A.r, CL, A.dx, _, _, rfl, R0.at 0 rfl, R.cls, R.n4, rfl, A.s, _, rfl, .inl (SqL.of (R0.at 3 rfl)), _, _, rfl, rfl, _, rfl, ite2 (fun _ => ?_) (fun no => absurd (decide_eq_true (lt_len _ _)) no)⟩
          refine ⟨_, rfl, A.r, CL, A.dx, _, _, rfl, R0.at 0 rfl, R.cls, R.n4, rfl, .inl ⟨rfl, _, SqL.of (R0.at 3 rfl)⟩, _, rfl, A.r, CL, A.dx, _, _, rfl, R0.at 0 rfl, R.cls, R.n4, rfl, .inl ⟨rfl, _, SqL.of (R0.at 3 rfl)⟩, A.s, _, 0, 0, .ref y.t, rfl, rfl, R0.at 3 rfl, by decide, by decide, six0 _, rfl, ?_⟩
          have R1 := (R0.put (o' := .lst (refsP s')) 3 rfl).sel [1, 2, 3, 0, 4, 5, 6, 7] (by decide)
          refine ⟨A.s, _, _, rfl, rfl, R1.at 3 rfl, ?_, ?_⟩
          · rw [List.length_map]
            exact sz4l (by have : (y :: s').length ≤ 1000 := hsl; rw [List.length_cons] at this; omega)
          have R2 := (R1.put (o' := .lst (refsP s' ++ [.ref y.t])) 3 rfl).sel [1, 2, 3, 0, 4, 5, 6, 7] (by decide)
          refine rest _ _ ⟨x :: q', s', y, rfl, if_neg e, List.mem_append_right _ (.head _), by have : (y :: s').length ≤ 1000 := hsl; rw [List.length_cons] at this; omega, ?_⟩
          have e5 : refsP (s' ++ [y]) = refsP s' ++ [.ref y.t] := List.map_append
          show Rn K H _ [] [_, _, _, tL A.s (refsP (s' ++ [y])), _, _, _, _] _
          rw [e5]
          exact R2
theorem sc_Intake___init__ : FnScope ["self"] ["self"] (defScope m_Intake___init__) := ⟨rfl, rfl, rfl, by decide +kernel, rfl, by decide +kernel, by decide +kernel⟩
theorem ok_Intake___init__ {f CB CI : Addr} {fd : FuncData} {k : Nat} (F : Fun K "__init__" "Intake.__init__" m_Intake___init__ f fd) (R : InC K CI) (c_Book : CalN P w K mg base k "Book" CB ["self"] (spBkI CB)) : FnOk P w K mg base CX0 (k + 2) f fd ["self"] (spInI CB CI) := by
  have sc := sc_Intake___init__
  refine F.ok sc (fun vs H Q E h => ?_) (fun cdv A_ outer s H vs Q E hr h => ?_)
  · obtain ⟨r, dx, rfl, _⟩ := h
    rfl
  · obtain ⟨r, dx, rfl, hins, q⟩ := h
    refine ⟨_, (pss_cons (ps_fldK K rfl (pv 0) (pe_makeC0 c_Book hr (by rfl)))
 (pss_cons (ps_fldK K rfl (pv 0) pe_int)
 (pss_cons (ps_fldK K rfl (pv 0) pe_dnewK)
 (pss_one (ps_fldK K rfl (pv 0) (pe_lst pa_nil)))))), ?_⟩
    have R0 : Rn K H (tG [tO r (.ins CI dx [])]).ft [] [tO r (.ins CI dx [])] H := Rn.start (Ts := [_]) (Hs.nil0.cons (T := tO r _) ⟨hins, trivial⟩ (fun j y hj => by cases hj))
    refine fun x dx1 nx ndx nex => ⟨x, dx1, rfl, upd_same, fun H2 l m2 nl bk => ⟨rfl, ?_⟩⟩
    have R1 := bk_made R0 nx ndx m2 nl bk
    clear m2 nl bk nx ndx nex R0
    refine ⟨_, rfl, r, CI, dx, _, rfl, R1.at 1 rfl, R.cls, R.n0, (by show 0 < 1000; decide), ?_⟩
    have e1 : putF "book" (.ref x) ([] : List (Str × V)) = [(("book" : Str), .ref x)] := rfl
    rw [e1]
    have R2 := (R1.put (o' := .ins CI dx [(("book" : Str), .ref x)]) 1 rfl)
    generalize upd H2 r (.ins CI dx [(("book" : Str), .ref x)]) = H3 at R2 ⊢
    refine ⟨_, rfl, r, CI, dx, _, rfl, R2.at 0 rfl, R.cls, R.n1, (by show 1 < 1000; decide), ?_⟩
    have e2 : putF "place" (.int 0) [(("book" : Str), V.ref x)] = [(("book" : Str), .ref x), (("place" : Str), .int 0)] := rfl
    rw [e2]
    have R3 := (R2.put (o' := .ins CI dx [(("book" : Str), .ref x), (("place" : Str), .int 0)]) 0 rfl)
    generalize upd H3 r (.ins CI dx [(("book" : Str), .ref x), (("place" : Str), .int 0)]) = H4 at R3 ⊢
    refine fun d nd => ?_
    have R4 := R3.newO (o := .dK []) nd
    generalize upd H4 d (.dK []) = H5 at R4 ⊢
    have R5 := R4
    refine ⟨_, rfl, r, CI, dx, _, rfl, R5.at 1 rfl, R.cls, R.n2, (by show 2 < 1000; decide), ?_⟩
    have e3 : putF "kept" (.ref d) [(("book" : Str), V.ref x), (("place" : Str), .int 0)] = [(("book" : Str), .ref x), (("place" : Str), .int 0), (("kept" : Str), .ref d)] := rfl
    rw [e3]
    have R6 := (R5.put (o' := .ins CI dx [(("book" : Str), .ref x), (("place" : Str), .int 0), (("kept" : Str), .ref d)]) 1 rfl)
    generalize upd H5 r (.ins CI dx [(("book" : Str), .ref x), (("place" : Str), .int 0), (("kept" : Str), .ref d)]) = H7 at R6 ⊢
    refine ⟨Nat.zero_le _, fun g ng => ?_⟩
    have R7 := R6.newL (xs := []) ng
    generalize upd H7 g (.lst []) = H8 at R7 ⊢
    refine ⟨_, rfl, r, CI, dx, _, rfl, R7.at 1 rfl, R.cls, R.n3, (by show 3 < 1000; decide), ?_⟩
    have e4 : putF "begun" (.ref g) [(("book" : Str), V.ref x), (("place" : Str), .int 0), (("kept" : Str), .ref d)] = inF x 0 d g := rfl
    rw [e4]
    have R8 := (R7.put (o' := .ins CI dx (inF x 0 d g)) 1 rfl)
    generalize upd H8 r (.ins CI dx (inF x 0 d g)) = H9 at R8 ⊢
    exact q H9 x l d g (R8.sel [0, 3, 2, 1] (by decide)).out
theorem sc_Link___init__ : FnScope ["self"] ["self"] (defScope m_Link___init__) := ⟨rfl, rfl, rfl, by decide +kernel, rfl, by decide +kernel, by decide +kernel⟩
theorem ok_Link___init__ {f CB CI CL : Addr} {fd : FuncData} {k : Nat} (F : Fun K "__init__" "Link.__init__" m_Link___init__ f fd) (R : LkC K CL) (c_Book : CalN P w K mg base (k + 1) "Book" CB ["self"] (spBkI CB)) (c_Intake : CalN P w K mg base (k + 1) "Intake" CI ["self"] (spInI CB CI)) : FnOk P w K mg base CX0 (k + 3) f fd ["self"] (spLkI CB CI CL) := by
  have sc := sc_Link___init__
  refine F.ok sc (fun vs H Q E h => ?_) (fun cdv A_ outer s H vs Q E hr h => ?_)
  · obtain ⟨r, dx, rfl, _⟩ := h
    rfl
  · obtain ⟨r, dx, rfl, hins, q⟩ := h
    refine ⟨_, (pss_cons (ps_fldK K rfl (pv 0) (pe_makeC0 c_Book hr (by rfl)))
 (pss_cons (ps_fldK K rfl (pv 0) (pe_makeC0 c_Intake hr (by rfl)))
 (pss_cons (ps_fldK K rfl (pv 0) pe_int)
 (pss_cons (ps_fldK K rfl (pv 0) (pe_lst pa_nil))
 (pss_cons (ps_fldK K rfl (pv 0) (pe_lst pa_nil))
 (pss_one (ps_fldK K rfl (pv 0) pe_bl))))))), ?_⟩
    have R0 : Rn K H (tG [tO r (.ins CL dx [])]).ft [] [tO r (.ins CL dx [])] H := Rn.start (Ts := [_]) (Hs.nil0.cons (T := tO r _) ⟨hins, trivial⟩ (fun j y hj => by cases hj))
    refine fun x dx1 nx ndx nex => ⟨x, dx1, rfl, upd_same, fun H2 l m2 nl bk => ⟨rfl, ?_⟩⟩
    have R1 := bk_made R0 nx ndx m2 nl bk
    clear m2 nl bk nx ndx nex R0
    refine ⟨_, rfl, r, CL, dx, _, rfl, R1.at 1 rfl, R.cls, R.n0, (by show 0 < 1000; decide), ?_⟩
    have e1 : putF "book" (.ref x) ([] : List (Str × V)) = [(("book" : Str), .ref x)] := rfl
    rw [e1]
    have R2 := (R1.put (o' := .ins CL dx [(("book" : Str), .ref x)]) 1 rfl)
    generalize upd H2 r (.ins CL dx [(("book" : Str), .ref x)]) = H3 at R2 ⊢
    refine fun i idx nx ndx nex => ⟨i, idx, rfl, upd_same, fun H4 ibr ibl ik ig u4 => ⟨rfl, ?_⟩⟩
    have R4 : Rn K H (tG [tO r (.ins CL dx [])]).ft [] (inTs CB CI i idx ibr ibl ik ig [] 0 [] [] ++ [tO r (.ins CL dx [(("book" : Str), .ref x)]), tBk CB x l []]) H4 := R2.upN (up_made nx ndx u4)
    clear u4 nx ndx nex R1 R2
    refine ⟨_, rfl, r, CL, dx, _, rfl, R4.at 4 rfl, R.cls, R.n1, (by show 1 < 1000; decide), ?_⟩
    have e2 : putF "intake" (.ref i) [(("book" : Str), V.ref x)] = [(("book" : Str), .ref x), (("intake" : Str), .ref i)] := rfl
    rw [e2]
    have R5 := (R4.put (o' := .ins CL dx [(("book" : Str), .ref x), (("intake" : Str), .ref i)]) 4 rfl)
    generalize upd H4 r (.ins CL dx [(("book" : Str), .ref x), (("intake" : Str), .ref i)]) = H5 at R5 ⊢
    refine ⟨_, rfl, r, CL, dx, _, rfl, R5.at 0 rfl, R.cls, R.n2, (by show 2 < 1000; decide), ?_⟩
    have e3 : putF "cut" (.int 0) [(("book" : Str), V.ref x), (("intake" : Str), .ref i)] = [(("book" : Str), .ref x), (("intake" : Str), .ref i), (("cut" : Str), .int 0)] := rfl
    rw [e3]
    have R6 := (R5.put (o' := .ins CL dx [(("book" : Str), .ref x), (("intake" : Str), .ref i), (("cut" : Str), .int 0)]) 0 rfl)
    generalize upd H5 r (.ins CL dx [(("book" : Str), .ref x), (("intake" : Str), .ref i), (("cut" : Str), .int 0)]) = H6 at R6 ⊢
    refine ⟨Nat.zero_le _, fun q1 nq => ?_⟩
    have R7 := R6.newL (xs := []) nq
    generalize upd H6 q1 (.lst []) = H7 at R7 ⊢
    refine ⟨_, rfl, r, CL, dx, _, rfl, R7.at 1 rfl, R.cls, R.n3, (by show 3 < 1000; decide), ?_⟩
    have e4 : putF "queue" (.ref q1) [(("book" : Str), V.ref x), (("intake" : Str), .ref i), (("cut" : Str), .int 0)] = [(("book" : Str), .ref x), (("intake" : Str), .ref i), (("cut" : Str), .int 0), (("queue" : Str), .ref q1)] := rfl
    rw [e4]
    have R8 := (R7.put (o' := .ins CL dx [(("book" : Str), .ref x), (("intake" : Str), .ref i), (("cut" : Str), .int 0), (("queue" : Str), .ref q1)]) 1 rfl)
    generalize upd H7 r (.ins CL dx [(("book" : Str), .ref x), (("intake" : Str), .ref i), (("cut" : Str), .int 0), (("queue" : Str), .ref q1)]) = H8 at R8 ⊢
    refine ⟨Nat.zero_le _, fun s1 ns => ?_⟩
    have R9 := R8.newL (xs := []) ns
    generalize upd H8 s1 (.lst []) = H9 at R9 ⊢
    refine ⟨_, rfl, r, CL, dx, _, rfl, R9.at 1 rfl, R.cls, R.n4, (by show 4 < 1000; decide), ?_⟩
    have e5 : putF "sent" (.ref s1) [(("book" : Str), V.ref x), (("intake" : Str), .ref i), (("cut" : Str), .int 0), (("queue" : Str), .ref q1)] = [(("book" : Str), .ref x), (("intake" : Str), .ref i), (("cut" : Str), .int 0), (("queue" : Str), .ref q1), (("sent" : Str), .ref s1)] := rfl
    rw [e5]
    have R10 := (R9.put (o' := .ins CL dx [(("book" : Str), .ref x), (("intake" : Str), .ref i), (("cut" : Str), .int 0), (("queue" : Str), .ref q1), (("sent" : Str), .ref s1)]) 1 rfl)
    generalize upd H9 r (.ins CL dx [(("book" : Str), .ref x), (("intake" : Str), .ref i), (("cut" : Str), .int 0), (("queue" : Str), .ref q1), (("sent" : Str), .ref s1)]) = H10 at R10 ⊢
    refine ⟨_, rfl, r, CL, dx, _, rfl, R10.at 0 rfl, R.cls, R.n5, (by show 5 < 1000; decide), ?_⟩
    have e6 : putF "owes" (.bl false) [(("book" : Str), V.ref x), (("intake" : Str), .ref i), (("cut" : Str), .int 0), (("queue" : Str), .ref q1), (("sent" : Str), .ref s1)] = lkF x i 0 q1 s1 false := rfl
    rw [e6]
    have R11 := (R10.put (o' := .ins CL dx (lkF x i 0 q1 s1 false)) 0 rfl)
    generalize upd H10 r (.ins CL dx (lkF x i 0 q1 s1 false)) = H11 at R11 ⊢
    refine q H11 ⟨r, dx, x, l, q1, s1, i, idx, ibr, ibl, ik, ig⟩ rfl rfl ?_
    have R12 : Rn K H _ [] (lkTs CB CI CL ⟨r, dx, x, l, q1, s1, i, idx, ibr, ibl, ik, ig⟩ ⟨[], 0, [], [], false, [], 0, [], []⟩) H11 := R11.sel [0, 7, 2, 1, 3, 4, 5, 6] (by decide)
    exact R12.out
theorem sc_Link_hand : FnScope ["self", "row", "book", "bits", "at", "last"] ["self", "row"] (defScope m_Link_hand) := ⟨rfl, rfl, rfl, by decide +kernel, rfl, by decide +kernel, by decide +kernel⟩
theorem ok_Link_hand {f CB CI CL cY cL cF : Addr} {fd : FuncData} {k : Nat} {t0 t1 : Tok} (F : Fun K "hand" "Link.hand" m_Link_hand f fd) (R : LkC K CL) (n_len : mg "len" = none) (n_range : mg "range" = none) (g_MOST_PIECES : mg "MOST_PIECES" = some (.int 40 t0)) (g_PIECE : mg "PIECE" = some (.int 40 t1)) (x_Full : XcOk P w K mg base k "Full" cF (spIni K cF "Full" "most")) (c_Book_twin : CalM CX0 P w K mg base (k + 1) CB "twin" ["self"] (spBkTwin CB)) (c_Book_pack : CalM (L2.CX P w) P w K mg base (k + 1) CB "pack" ["self", "row"] (spPack K CB cY cL)) : FnOk P w K mg base (L2.CX P w) (k + 2) f fd ["self", "row"] (spHand K CB CI CL cY cL cF) := by
  have sc := sc_Link_hand
  refine F.okX sc (fun vs H Q E h => ?_) (fun cdv A_ outer s H vs Q E hr h => ?_)
  · obtain ⟨A, S, a, ns, rfl, _⟩ := h
    rfl
  · obtain ⟨A, S, a, ns, rfl, hp, hw, hw61, hS, hl, hql, q, qf, ql, qb⟩ := h
    refine ⟨_, (pss_cons (ps_set (i := 2) sc.nd rfl (.inl rfl) (pe_methC0 (pe_fldK K rfl (pv 0)) c_Book_twin hr))
 (pss_cons (ps_set (i := 3) sc.nd rfl (.inl rfl) (pe_methP (pv 2) c_Book_pack hr (passes_call (takes_of rfl rfl rfl rfl) (fun _ _ _ _ h => h)) (pa_cons (pv 1) pa_nil)))
 (pss_cons (ps_if (pt_cmpR op_ge (pe_callB (call_lenK K rfl) (by rfl) n_len PySem.boot_len (pa_cons (pe_fldK K rfl (pv 0)) pa_nil)) (pe_glob (v := .int 40) (by rfl) g_MOST_PIECES ⟨_, rfl⟩) (nomark _))
  (pss_one (ps_raise rfl (takes_of rfl rfl rfl rfl) (pmk_c x_Full hr (by rfl) (pa_cons (pe_glob (v := .int 40) (by rfl) g_MOST_PIECES ⟨_, rfl⟩) pa_nil))))
  pss_nil)
 (pss_cons (ps_fldK K rfl (pv 0) (pv 2))
 (pss_one (ps_for (passes_of rfl) rfl (pi_range3 (by rfl) n_range (pa_cons pe_int (pa_cons (pe_callB (call_lenK K rfl) (by rfl) n_len PySem.boot_len (pa_cons (pv 3) pa_nil)) (pa_cons (pe_glob (v := .int 40) (by rfl) g_PIECE ⟨_, rfl⟩) pa_nil)))) (pg_name (i := 4) sc.nd rfl (.inl rfl))
  (pss_cons (ps_set (i := 5) sc.nd rfl (.inl rfl) (pe_ifExp (pt_cmpR op_ge (pe_op op_add (pv 4) (pe_glob (v := .int 40) (by rfl) g_PIECE ⟨_, rfl⟩)) (pe_callB (call_lenK K rfl) (by rfl) n_len PySem.boot_len (pa_cons (pv 3) pa_nil)) (nomark _)) pe_int pe_int))
 (pss_cons (ps_expr (pe_bmK K rfl PySem.F.plainAttrs_list PySem.F.slot_list_append PySem.F.type_list_append mt_append (pe_fldK K rfl (pv 0)) (pa_cons (pe_tup (pa_cons (pe_fldK K rfl (pv 0)) (pa_cons (pv 5) (pa_cons (pe_slice (sl_listK K rfl) (pv 3) (po_some (pv 4)) (po_some (pe_op op_add (pv 4) (pe_glob (v := .int 40) (by rfl) g_PIECE ⟨_, rfl⟩)))) pa_nil)))) pa_nil)))
 (pss_one (ps_fldaugK K rfl (pv 0) pe_int in_add)))))))))), ?_⟩
    have R0 : Rn K H (tLk CB CI CL A S).ft [] (lkTs CB CI CL A S) H := Rn.start hp
    obtain ⟨⟨bdx, hb⟩, _⟩ : Bk CB A.br A.bl S.P H := R0.get 1 rfl
    refine ⟨_, rfl, A.r, CL, A.dx, _, _, rfl, R0.at 0 rfl, R.cls, R.n0, rfl, A.br, bdx, _, rfl, hb, rfl, A.br, A.bl, S.P, rfl, R0.get 1 rfl, fun H1 r' l' s1 nr nl bk1 => ?_⟩
    have R1 := R0.newTh (N := tBk CB r' l' S.P) s1 bk1 (fun a ha => by
      rcases in2u ha with rfl | rfl
      · exact nr
      · exact nl)
    obtain ⟨⟨dx1, hb1⟩, _⟩ := id bk1
    refine name_by ?_
    dsimp only
    refine ⟨_, rfl, r', dx1, _, rfl, hb1, rfl, _, rfl, r', l', a, S.P, ns, rfl, bk1, hw.same s1, hw61, s1.seq hS, hl, (fun hby h60 H2 l2 o P' m2 nl2 no nol bk2 tw2 ew eo => ?_), (fun hby h60 H' d s2 nd ed => ql hby h60 H' d (s1.trans s2) (s1.free nd) ed), (fun i z hz nz ht H' d s2 nd ed => qb i z hz nz ht H' d (s1.trans s2) (s1.free nd) ed)⟩
    have u2 : Up (tBk CB r' l' S.P) [tL o ((bkPack (wsOf S.P) ns).map V.int), tBk CB r' l2 P'] H1 H2 := up_mvN (T := tBk CB r' l' S.P) (T' := tBk CB r' l2 P') (N := tL o ((bkPack (wsOf S.P) ns).map V.int)) bk1 m2 (fun a ha => by rw [in1 ha]; exact .head _) bk2 (fun a ha => by
      rcases in2u ha with rfl | rfl
      · exact .inl (.head _)
      · exact .inr nl2) ⟨eo, trivial⟩ (fun a ha => by
      rw [in1 ha]
      refine ⟨no, fun z => ?_⟩
      rcases in2u z with z | z
      · rw [z, hb1] at no
        cases no
      · exact nol z)
    have R2 := (R1.up 0 rfl u2).knows tw2
    have sH : Same H H2 := fun b u e => m2.kp b u (fun z => by
      have z := in1 z
      rw [z, nr] at e
      cases e) (s1 b u e)
    obtain ⟨bs, ebs⟩ : ∃ bs, bs = bkPack (wsOf S.P) ns := ⟨_, rfl⟩
    have lbs : bs.length ≤ 100000 := by
      rw [ebs]
      have := bkPack_len (wsOf S.P) ns
      omega
    rw [← ebs] at R2 q
    clear u2 bk2 bk1 hb1 eo
    refine name_by ?_
    dsimp only
    refine ⟨_, rfl, A.r, CL, A.dx, _, _, rfl, R2.at 2 rfl, R.cls, R.n3, rfl, A.q, _, rfl, .inl (SqL.of (R2.at 4 rfl)), _, _, rfl, rfl, _, rfl, ite2 (fun e => ?_) (fun e => ?_)⟩
    · have e : 40 ≤ S.queue.length := by
        have h1 : (40 : Int) ≤ (((refsP S.queue).length : Nat) : Int) := of_decide_eq_true e
        rw [List.length_map] at h1
        omega
      exact mk_inner (i := 40) (by decide) (fun H3 d s3 nd ed => qf hby h60 e H3 d (sH.trans s3) (sH.free nd) ed)
    · have e : S.queue.length < 40 := by
        have h1 : ¬ (40 : Int) ≤ (((refsP S.queue).length : Nat) : Int) := fun y => e (decide_eq_true y)
        rw [List.length_map] at h1
        omega
      have q := q hby h60 e
      refine ⟨_, rfl, _, rfl, A.r, CL, A.dx, _, rfl, R2.at 2 rfl, R.cls, R.n0, (by show 6 < 1000; decide), ?_⟩
      have e4 : putF "book" (.ref r') (lkF A.br A.i (S.cut : Int) A.q A.s S.owes) = lkF r' A.i (S.cut : Int) A.q A.s S.owes := rfl
      rw [e4]
      have R3 := (R2.put (o' := .ins CL A.dx (lkF r' A.i (S.cut : Int) A.q A.s S.owes)) 2 rfl).sel [1, 0, 2, 4, 5, 6, 7, 8, 9] (by decide)
      have R4 := ((R3.gnil (f := fN)).sel [1, 2, 3, 4, 5, 6, 7, 8, 9, 0] (by decide))
      generalize upd H2 A.r (.ins CL A.dx (lkF r' A.i (S.cut : Int) A.q A.s S.owes)) = H3 at R4 ⊢
      dsimp only [List.set, L2.start]
      refine ⟨_, rfl, o, _, rfl, .inl (SqL.of (R4.at 0 rfl)), 0, _, 40, pcN bs, rfl, ?_, ?_⟩
      · rw [List.length_map]
        exact rgc40 lbs
      · refine for_rangeC (lo := 0) (c := 40) (n := pcN bs) (fun j σ H' => ∃ (new : List PT) (y4 y5 : Option V), σ = [some (.ref A.r), some (.ref a), some (.ref r'), some (.ref o), y4, y5] ∧ PcsOf S.cut bs j new ∧ Rn K H (tLk CB CI CL A S).ft (knP new ++ knW P') (tL o (bs.map V.int) :: (lkTs CB CI CL { A with br := r', bl := l2 } { S with P := P', cut := S.cut + j, queue := S.queue ++ new } ++ [tG (new.map fN)])) H') ⟨[], none, none, rfl, .nil, ?_⟩ ?_ ?_
        · have R5 := R4.selT (L' := knP [] ++ knW P') (fun q hq => List.mem_append_left _ hq)
          rw [show S.queue ++ [] = S.queue from List.append_nil _]
          exact R5
        · rintro j σ H4 hj ⟨new, y4, y5, rfl, hn, R5⟩
          refine asg_by (J := fun v H' => H' = H4 ∧ v = .int (pcL bs j)) ?_ (fun rest => ?_)
          · rintro v H' ⟨rfl, rfl⟩
            dsimp only [List.set]
            refine ⟨_, rfl, A.r, CL, A.dx, _, _, rfl, R5.at 1 rfl, R.cls, R.n3, rfl, .inl ⟨rfl, _, SqL.of (R5.at 3 rfl)⟩, _, rfl, A.r, CL, A.dx, _, _, rfl, R5.at 1 rfl, R.cls, R.n2, rfl, _, rfl, _, rfl, _, rfl, _, rfl, _, rfl, _, _, rfl, rfl, _, rfl, o, _, rfl, SqL.of (R5.at 0 rfl), fun pb npb => ?_⟩
            rw [pc_cut]
            have R6 := R5.newL (xs := (pcB bs j).map L2.V.int) npb
            generalize upd H' pb (.lst ((pcB bs j).map L2.V.int)) = H6 at R6 ⊢
            refine ⟨(by show 3 ≤ sizeLine; decide), fun pt npt => ?_⟩
            have R7 := R6.newT (xs := [.int ((S.cut + j : Nat) : Int), .int (pcL bs j), .ref pb]) npt
            generalize upd H6 pt (.tup [.int ((S.cut + j : Nat) : Int), .int (pcL bs j), .ref pb]) = H7 at R7 ⊢
            clear R5 R6 npb npt
            refine ⟨A.q, _, _, rfl, rfl, R7.at 4 rfl, ?_, ?_⟩
            · rw [List.length_map, List.length_append, hn.len]
              exact sz4l (by have : j < (bs.length + 39) / 40 := hj; omega)
            have R8 := (R7.put (o' := .lst (refsP (S.queue ++ new) ++ [.ref pt])) 4 rfl)
            generalize upd H7 A.q (.lst (refsP (S.queue ++ new) ++ [.ref pt])) = H8 at R8 ⊢
            refine ⟨_, rfl, A.r, CL, A.dx, _, _, rfl, R8.at 3 rfl, R.cls, R.n2, rfl, _, _, rfl, rfl, ?_⟩
            refine ⟨_, _, R8.at 3 rfl, (by show 6 < 1000; decide), ?_⟩
            have e6 : putF "cut" (.int (((S.cut + j : Nat) : Int) + 1)) (lkF r' A.i ((S.cut + j : Nat) : Int) A.q A.s S.owes) = lkF r' A.i (((S.cut + j : Nat) : Int) + 1) A.q A.s S.owes := rfl
            rw [e6]
            have R9 := (R8.put (o' := .ins CL A.dx (lkF r' A.i (((S.cut + j : Nat) : Int) + 1) A.q A.s S.owes)) 3 rfl)
            generalize upd H8 A.r (.ins CL A.dx (lkF r' A.i (((S.cut + j : Nat) : Int) + 1) A.q A.s S.owes)) = H9 at R9 ⊢
            have ec : ((S.cut + j : Nat) : Int) + 1 = ((S.cut + (j + 1) : Nat) : Int) := by omega
            rw [ec] at R9
            have eq5 : refsP (S.queue ++ new) ++ [.ref pt] = refsP (S.queue ++ (new ++ [(⟨pt, S.cut + j, pcL bs j, pb, pcB bs j⟩ : PT)])) := by
              simp [refsP]
            rw [eq5] at R9
            have R10 := Rn.gadd (f := fN) (Y := new) (z := ⟨pt, S.cut + j, pcL bs j, pb, pcB bs j⟩) (R9.sel [2, 10, 3, 0, 4, 1, 5, 6, 7, 8, 9] (by decide))
            have R11 := (R10.sel [1, 2, 3, 4, 5, 6, 7, 8, 9, 0] (by decide)).selT (L' := knP (new ++ [(⟨pt, S.cut + j, pcL bs j, pb, pcB bs j⟩ : PT)]) ++ knW P') (fun q hq => by
              unfold knP at hq
              rw [List.map_append] at hq
              rcases List.mem_append.mp hq with z | z
              · rcases List.mem_append.mp z with z | z
                · exact .tail _ (List.mem_append_left _ z)
                · rw [List.mem_singleton.mp z]
                  exact .head _
              · exact .tail _ (List.mem_append_right _ z))
            exact ⟨new ++ [⟨pt, S.cut + j, pcL bs j, pb, pcB bs j⟩], _, _, rfl, hn.more ⟨rfl, rfl, rfl⟩, R11⟩
          · refine ⟨_, rfl, _, _, rfl, rfl, _, rfl, o, _, rfl, .inl (SqL.of (R5.at 0 rfl)), _, _, rfl, rfl, _, rfl, ite2 (fun e5 => ?_) (fun e5 => ?_)⟩
            · have h5 : ((((bs.map L2.V.int).length : Nat)) : Int) ≤ 0 + (j : Int) * 40 + 40 := of_decide_eq_true e5
              rw [List.length_map] at h5
              exact rest _ _ ⟨rfl, by unfold pcL; rw [if_pos (by omega)]⟩
            · have h5 : ¬ ((((bs.map L2.V.int).length : Nat)) : Int) ≤ 0 + (j : Int) * 40 + 40 := fun y => e5 (decide_eq_true y)
              rw [List.length_map] at h5
              exact rest _ _ ⟨rfl, by unfold pcL; rw [if_neg (by omega)]⟩
        · rintro σ H4 ⟨new, y4, y5, rfl, hn, R5⟩
          have R6 := (R5.sel [9, 1, 2, 3, 4, 5, 6, 7, 8] (by decide)).ungrp
          refine q H4 r' l2 P' new hn ew ?_ ?_ ?_
          · exact fun q hq => R5.hw.tf q (List.mem_append_right _ hq)
          · exact fun q hq => R5.hw.tf q (List.mem_append_left _ hq)
          · rw [hn.len]
            exact R6.out
theorem bn_acc_lt : ∀ (bs : List Int) (c : Int), Bits bs → 0 ≤ c → 0 ≤ bs.foldl (fun n b => 2 * n + b) c ∧ bs.foldl (fun n b => 2 * n + b) c < (c + 1) * 2 ^ bs.length
  | [], c, _, hc => by
    show 0 ≤ c ∧ c < (c + 1) * 1
    omega
  | b :: r, c, h, hc => by
    have hb := (bits_cons h).1
    have ih := bn_acc_lt r (2 * c + b) (bits_cons h).2 (by rcases hb with rfl | rfl <;> omega)
    refine ⟨ih.1, Int.lt_of_lt_of_le ih.2 ?_⟩
    rw [List.length_cons, Int.pow_succ, Int.mul_comm (2 ^ r.length) 2, ← Int.mul_assoc]
    exact Int.mul_le_mul_of_nonneg_right (by rcases hb with rfl | rfl <;> omega) (Int.pow_nonneg (by decide))
theorem bn_lt {bs : List Int} (h : Bits bs) : 0 ≤ bn bs ∧ bn bs < 2 ^ bs.length := by
  have := bn_acc_lt bs 0 h (Int.le_refl _)
  unfold bn
  omega
/-! ### what comes in: pieces kept, rows put together -/
abbrev ktV (x : KT) : List L2.V := [.int x.last, .ref x.ba]
abbrev knK (ks : List KT) : List (Addr × List L2.V) := ks.map fun x => (x.t, ktV x)
abbrev fK (x : KT) : Th := tL x.ba (x.bits.map L2.V.int)
abbrev fR (p : Addr × List Int) : Th := tL p.1 (p.2.map L2.V.int)
abbrev refsR (rs : List (Addr × List Int)) : List L2.V := rs.map fun p => .ref p.1
def kGet (ks : List KT) (k : Nat) : Option KT := ks.find? fun x => decide (x.key = k)
def kDrop (ks : List KT) (k : Nat) : List KT := ks.filter fun x => decide (x.key ≠ k)
theorem kept_key (x : KT) (k : Nat) : (decide ((Sum.inl (x.key : Int) : Key) = .inl (k : Int))) = decide (x.key = k) := by
  by_cases h : x.key = k
  · rw [decide_eq_true h, decide_eq_true (by rw [h])]
  · rw [decide_eq_false h, decide_eq_false]
    intro z
    have := Sum.inl.inj z
    omega
theorem kept_val (ks : List KT) (k : Nat) : valV (keptD ks) (.inl (k : Int)) = (kGet ks k).map fun x => L2.V.ref x.t := by
  induction ks with
  | nil => rfl
  | cons x r ih =>
    by_cases h : x.key = k
    · rw [show keptD (x :: r) = (.inl (x.key : Int), .ref x.t) :: keptD r from rfl, valV_pos (by show (Sum.inl (x.key : Int) : Key) = _; rw [h])]
      unfold kGet
      rw [List.find?_cons_of_pos (by simp [h])]
      rfl
    · rw [show keptD (x :: r) = (.inl (x.key : Int), .ref x.t) :: keptD r from rfl, valV_neg (by
        intro z
        have := Sum.inl.inj z
        omega), ih]
      unfold kGet
      rw [List.find?_cons_of_neg (by simp [h])]
theorem kept_drop (ks : List KT) (k : Nat) : dropK (keptD ks) (.inl (k : Int)) = keptD (kDrop ks k) := by
  unfold dropK kDrop keptD
  rw [List.filter_map]
  congr 1
  refine List.filter_congr fun x _ => ?_
  show decide (¬ (Sum.inl (x.key : Int) : Key) = .inl (k : Int)) = decide (¬ x.key = k)
  have := kept_key x k
  by_cases h : x.key = k
  · rw [decide_eq_false (by simp [h]), decide_eq_false (by simp [h])]
  · rw [decide_eq_true h, decide_eq_true]
    intro z
    have := Sum.inl.inj z
    omega
theorem kept_put {ks : List KT} {x : KT} (h : kGet ks x.key = none) : putK (keptD ks) (.inl (x.key : Int)) (.ref x.t) = keptD (ks ++ [x]) := by
  unfold putK
  rw [valV_any, kept_val, h]
  show keptD ks ++ [_] = _
  rw [keptD, keptD, List.map_append]
  rfl
theorem kGet_some {ks : List KT} {k : Nat} {x : KT} (h : kGet ks k = some x) : x ∈ ks ∧ x.key = k := ⟨List.mem_of_find?_eq_some h, by
  have := List.find?_some h
  exact of_decide_eq_true this⟩
theorem kDrop_sub {ks : List KT} {k : Nat} : ∀ x ∈ kDrop ks k, x ∈ ks := fun x hx => (List.mem_filter.mp hx).1
theorem kDrop_len {ks : List KT} {k : Nat} {x : KT} (h : kGet ks k = some x) : (kDrop ks k).length < ks.length := by
  obtain ⟨hm, hk⟩ := kGet_some h
  refine List.length_filter_lt_length_iff_exists.mpr ⟨x, hm, ?_⟩
  simp [hk]
inductive InO
  | ok (ws : Wds) (place : Nat) (ks : List KT) (bg : List Int) (rows : List (List Int))
  | bad (e : UnO)
def inGo : Nat → Wds → Nat → List KT → List Int → List (List Int) → InO
  | 0, ws, p, ks, bg, rows => .ok ws p ks bg rows
  | n + 1, ws, p, ks, bg, rows => match kGet ks p with
    | none => .ok ws p ks bg rows
    | some x => if x.last = 1 then (match bkUnpack ws (bg ++ x.bits) with
        | .ok row ws' => inGo n ws' (p + 1) (kDrop ks p) [] (rows ++ [row])
        | e => .bad e) else inGo n ws (p + 1) (kDrop ks p) (bg ++ x.bits) rows
def inPut (ks : List KT) (place : Nat) (num last : Int) (t pa : Addr) (bits : List Int) : List KT :=
  if ((num - (place : Int)) % 8).toNat < 4 ∧ kGet ks (place + ((num - (place : Int)) % 8).toNat) = none then ks ++ [⟨place + ((num - (place : Int)) % 8).toNat, t, last, pa, bits⟩] else ks
theorem inPut_len {ks : List KT} {place : Nat} {num last : Int} {t pa : Addr} {bits : List Int} : (inPut ks place num last t pa bits).length ≤ ks.length + 1 := by
  unfold inPut
  split
  · rw [List.length_append]
    exact Nat.le_refl _
  · omega
theorem inPut_mem {ks : List KT} {place : Nat} {num last : Int} {t pa : Addr} {bits : List Int} {x : KT} (h : x ∈ inPut ks place num last t pa bits) : x ∈ ks ∨ (x.t = t ∧ x.last = last ∧ x.ba = pa ∧ x.bits = bits) := by
  unfold inPut at h
  split at h
  · rcases List.mem_append.mp h with z | z
    · exact .inl z
    · rw [List.mem_singleton.mp z]
      exact .inr ⟨rfl, rfl, rfl, rfl⟩
  · exact .inl h
/-- the kept pieces' lists lie outside -/
def KbOk (F : List Addr) (ks : List KT) (H : Hp) : Prop := ∀ x ∈ ks, H x.ba = some (.lst (x.bits.map L2.V.int)) ∧ x.ba ∉ F ∧ Bits x.bits ∧ x.bits.length ≤ 40
/-- what a refusal of a row is -/
def UxO (cF cL cC : Addr) : UnO → Addr → Option HO → Prop
  | .ok _ _, _, _ => False
  | .frame n, cx, o => cx = cF ∧ o = some (.xd [(("at" : Str), .int (n : Int)), (("word" : Str), .str "BadFrame")])
  | .long, cx, o => cx = cL ∧ o = some (.xd [(("most" : Str), .int 60), (("word" : Str), .str "TooLong")])
  | .code i, cx, o => cx = cC ∧ o = some (.xd [(("at" : Str), .int (i : Int)), (("word" : Str), .str "BadCode")])
def spTakeP (K : PySem.W.Frag) (CB CI cF cL cC : Addr) : Sp := fun vs H Q E => ∃ (i idx ibr ibl ik ig : Addr) (iP : List WP) (place : Nat) (ks : List KT) (bg : List Int) (num last : Int) (pa : Addr) (bits : List Int), vs = [.ref i, .int num, .int last, .ref pa] ∧ (tG (inTs CB CI i idx ibr ibl ik ig iP place ks bg)).P H ∧ TF K (knW iP) H ∧ TF K (knK ks) H ∧ W61 (wsOf iP) ∧
  KbOk (tG (inTs CB CI i idx ibr ibl ik ig iP place ks bg)).ft ks H ∧ H pa = some (.lst (bits.map V.int)) ∧ pa ∉ (tG (inTs CB CI i idx ibr ibl ik ig iP place ks bg)).ft ∧ Bits bits ∧ bits.length ≤ 40 ∧ Bits bg ∧ bg.length ≤ 8000 ∧ ks.length ≤ 30 ∧ ∀ t : Addr,
  (∀ ws p' ks' bg' rows, inGo (ks.length + 2) (wsOf iP) place (inPut ks place num last t pa bits) bg [] = .ok ws p' ks' bg' rows → ∀ (H' : Hp) (o ibl' ig' : Addr) (iP' : List WP) (rs : List (Addr × List Int)), rs.map (fun r => r.2) = rows → wsOf iP' = ws → TF K (knW iP') H' → TF K (knK ks') H' →
    Up (tG (inTs CB CI i idx ibr ibl ik ig iP place ks bg)) ((tL o (refsR rs) :: rs.map fR) ++ inTs CB CI i idx ibr ibl' ik ig' iP' p' ks' bg') H H' → Q (.ref o) H') ∧
  (∀ e, inGo (ks.length + 2) (wsOf iP) place (inPut ks place num last t pa bits) bg [] = .bad e → ∀ (H' : Hp) (d cx : Addr), MvF (tG (inTs CB CI i idx ibr ibl ik ig iP place ks bg)).ft H H' → (∀ a o, H a = some o → ¬ noT o → H' a = some o) → UxO cF cL cC e cx (H' d) → E (.ref cx) (some d) H')
def spInTwin (CB CI : Addr) : Sp := fun vs H Q _ => ∃ (i idx ibr ibl ik ig : Addr) (iP : List WP) (place : Nat) (ks : List KT) (bg : List Int), vs = [.ref i] ∧ (tG (inTs CB CI i idx ibr ibl ik ig iP place ks bg)).P H ∧
  ∀ (H' : Hp) (i' idx' ibr' ibl' ik' ig' : Addr), Up (tG []) (inTs CB CI i' idx' ibr' ibl' ik' ig' iP place ks bg) H H' → Q (.ref i') H'
theorem sc_Intake_twin : FnScope ["self", "other"] ["self"] (defScope m_Intake_twin) := ⟨rfl, rfl, rfl, by decide +kernel, rfl, by decide +kernel, by decide +kernel⟩
theorem ok_Intake_twin {f CB CI : Addr} {fd : FuncData} {k : Nat} (F : Fun K "twin" "Intake.twin" m_Intake_twin f fd) (R : InC K CI) (n_dict : mg "dict" = none) (n_list : mg "list" = none) (c_Intake : CalN P w K mg base k "Intake" CI ["self"] (spInI CB CI)) (c_Book_twin : CalM CX0 P w K mg base (k + 1) CB "twin" ["self"] (spBkTwin CB)) : FnOk P w K mg base CX0 (k + 2) f fd ["self"] (spInTwin CB CI) := by
  have sc := sc_Intake_twin
  refine F.ok sc (fun vs H Q E h => ?_) (fun cdv A_ outer s H vs Q E hr h => ?_)
  · obtain ⟨i, idx, ibr, ibl, ik, ig, iP, place, ks, bg, rfl, _⟩ := h
    rfl
  · obtain ⟨i, idx, ibr, ibl, ik, ig, iP, place, ks, bg, rfl, hp, q⟩ := h
    refine ⟨_, (pss_cons (ps_set (i := 1) sc.nd rfl (.inl rfl) (pe_makeC0 c_Intake hr (by rfl)))
 (pss_cons (ps_fldK K rfl (pv 1) (pe_methC0 (pe_fldK K rfl (pv 0)) c_Book_twin hr))
 (pss_cons (ps_fldK K rfl (pv 1) (pe_fldK K rfl (pv 0)))
 (pss_cons (ps_fldK K rfl (pv 1) (pe_callTy call_dictD (by rfl) n_dict (by decide +kernel) (pa_cons (pe_fldK K rfl (pv 0)) pa_nil)))
 (pss_cons (ps_fldK K rfl (pv 1) (pe_callTy (call_listK K rfl) (by rfl) n_list (by decide +kernel) (pa_cons (pe_fldK K rfl (pv 0)) pa_nil)))
 (pss_one (ps_ret (pv 1)))))))), ?_⟩
    have S0 : Rn K H [] [] [] H := Rn.start0
    have hi : Hs [] (inTs CB CI i idx ibr ibl ik ig iP place ks bg) H := hp
    refine fun x dx nx ndx nex => ⟨x, dx, rfl, upd_same, fun H2 ibr2 ibl2 ik2 ig2 u2 => ⟨rfl, ?_⟩⟩
    have R2 := S0.upN (up_made nx ndx u2)
    clear u2 nx ndx nex
    have h2 := hi.same R2.mv.toSame
    refine name_by ?_
    dsimp only
    obtain ⟨⟨bdx, hb⟩, _⟩ : Bk CB ibr ibl iP H2 := h2.get 1 rfl
    refine ⟨_, rfl, i, CI, idx, _, _, rfl, h2.at 0 rfl, R.cls, R.n0, rfl, ibr, bdx, _, rfl, hb, rfl, ibr, ibl, iP, rfl, h2.get 1 rfl, fun H3 r' l' s3 nr nl bk3 => ?_⟩
    have R3 := R2.newTh (N := tBk CB r' l' iP) s3 bk3 (fun a ha => by
      rcases in2u ha with rfl | rfl
      · exact nr
      · exact nl)
    clear bk3 nr nl s3 h2 hb
    refine ⟨_, rfl, x, CI, dx, _, rfl, R3.at 1 rfl, R.cls, R.n0, (by show 4 < 1000; decide), ?_⟩
    have e1 : putF "book" (.ref r') (inF ibr2 ((0 : Nat) : Int) ik2 ig2) = inF r' ((0 : Nat) : Int) ik2 ig2 := rfl
    rw [e1]
    have R4 := R3.put (o' := .ins CI dx (inF r' ((0 : Nat) : Int) ik2 ig2)) 1 rfl
    generalize upd H3 x (.ins CI dx (inF r' ((0 : Nat) : Int) ik2 ig2)) = H4 at R4 ⊢
    clear R3
    have h4 := hi.same R4.mv.toSame
    refine ⟨_, rfl, i, CI, idx, _, _, rfl, h4.at 0 rfl, R.cls, R.n1, rfl, ?_⟩
    refine ⟨_, rfl, x, CI, dx, _, rfl, R4.at 0 rfl, R.cls, R.n1, (by show 4 < 1000; decide), ?_⟩
    have e2 : putF "place" (.int (place : Int)) (inF r' ((0 : Nat) : Int) ik2 ig2) = inF r' (place : Int) ik2 ig2 := rfl
    rw [e2]
    have R5 := R4.put (o' := .ins CI dx (inF r' (place : Int) ik2 ig2)) 0 rfl
    generalize upd H4 x (.ins CI dx (inF r' (place : Int) ik2 ig2)) = H5 at R5 ⊢
    clear R4 h4
    have h5 := hi.same R5.mv.toSame
    refine ⟨_, rfl, i, CI, idx, _, _, rfl, h5.at 0 rfl, R.cls, R.n2, rfl, ik, _, rfl, .inl (h5.at 2 rfl), fun k3 nk3 => ?_⟩
    have R6 := R5.newO (o := .dK (keptD ks)) nk3
    generalize upd H5 k3 (.dK (keptD ks)) = H6 at R6 ⊢
    clear R5 h5
    refine ⟨_, rfl, x, CI, dx, _, rfl, R6.at 1 rfl, R.cls, R.n2, (by show 4 < 1000; decide), ?_⟩
    have e3 : putF "kept" (.ref k3) (inF r' (place : Int) ik2 ig2) = inF r' (place : Int) k3 ig2 := rfl
    rw [e3]
    have R7 := R6.put (o' := .ins CI dx (inF r' (place : Int) k3 ig2)) 1 rfl
    generalize upd H6 x (.ins CI dx (inF r' (place : Int) k3 ig2)) = H7 at R7 ⊢
    clear R6
    have h7 := hi.same R7.mv.toSame
    refine ⟨_, rfl, i, CI, idx, _, _, rfl, h7.at 0 rfl, R.cls, R.n3, rfl, ig, _, rfl, .inl (SqL.of (h7.at 3 rfl)), fun g3 ng3 => ?_⟩
    have R8 := R7.newL (xs := bg.map V.int) ng3
    generalize upd H7 g3 (.lst (bg.map V.int)) = H8 at R8 ⊢
    clear R7 h7
    refine ⟨_, rfl, x, CI, dx, _, rfl, R8.at 1 rfl, R.cls, R.n3, (by show 4 < 1000; decide), ?_⟩
    have e4 : putF "begun" (.ref g3) (inF r' (place : Int) k3 ig2) = inF r' (place : Int) k3 g3 := rfl
    rw [e4]
    have R9 := R8.put (o' := .ins CI dx (inF r' (place : Int) k3 g3)) 1 rfl
    generalize upd H8 x (.ins CI dx (inF r' (place : Int) k3 g3)) = H9 at R9 ⊢
    clear R8
    exact ⟨_, rfl, q H9 x dx r' l' k3 g3 (R9.sel [0, 3, 2, 1] (by decide)).out0⟩
theorem sc_Intake_take_piece : FnScope ["self", "number", "last", "piece", "ahead", "rows", "ends", "bits"] ["self", "number", "last", "piece"] (defScope m_Intake_take_piece) := ⟨rfl, rfl, rfl, by decide +kernel, rfl, by decide +kernel, by decide +kernel⟩
theorem putK_of {ks : List KT} {n : Nat} {t pa : Addr} {last : Int} {bits : List Int} (h : kGet ks n = none) : putK (keptD ks) (.inl (n : Int)) (.ref t) = keptD (ks ++ [⟨n, t, last, pa, bits⟩]) := kept_put (x := ⟨n, t, last, pa, bits⟩) h
theorem ok_Intake_take_piece {f CB CI cB cF cL cC : Addr} {fd : FuncData} {k : Nat} {t0 t1 : Tok} (F : Fun K "take_piece" "Intake.take_piece" m_Intake_take_piece f fd) (R : InC K CI) (g_NUMBERS : mg "NUMBERS" = some (.int 8 t0)) (g_WINDOW : mg "WINDOW" = some (.int 4 t1)) (c_Book_unpack : CalM (L2.CX P w) P w K mg base k CB "unpack" ["self", "bits"] (spUnpack K CB cB cF cL cC)) : FnOk P w K mg base (L2.CX P w) (k + 1) f fd ["self", "number", "last", "piece"] (spTakeP K CB CI cF cL cC) := by
  have sc := sc_Intake_take_piece
  refine F.okX sc (fun vs H Q E h => ?_) (fun cdv A_ outer s H vs Q E hr h => ?_)
  · obtain ⟨i, idx, ibr, ibl, ik, ig, iP, place, ks, bg, num, last, pa, bits, rfl, _⟩ := h
    rfl
  · obtain ⟨i, idx, ibr, ibl, ik, ig, iP, place, ks, bg, num, last, pa, bits, rfl, hp, htw, htk, hw61, hkb, hpa, hpaF, hbits, hbl, hbg, hbgl, hksl, q⟩ := h
    refine ⟨_, (pss_cons (ps_set (i := 4) sc.nd rfl (.inl rfl) (pe_op op_mod (pe_op op_sub (pv 1) (pe_fldK K rfl (pv 0))) (pe_glob (v := .int 8) (by rfl) g_NUMBERS ⟨_, rfl⟩)))
 (pss_cons (ps_if (PW.pt (pw_and (pt_cmpR op_lt (pv 4) (pe_glob (v := .int 4) (by rfl) g_WINDOW ⟨_, rfl⟩) (nomark _)) (pw_and1 (pt_cmp (pc_dnotin (hu_of hr) (pe_op op_add (pe_fldK K rfl (pv 0)) (pv 4)) (pe_fldK K rfl (pv 0)))))))
  (pss_one (ps_dput (hu_of hr) (pe_fldK K rfl (pv 0)) (pe_op op_add (pe_fldK K rfl (pv 0)) (pv 4)) (pe_tup (pa_cons (pv 2) (pa_cons (pv 3) pa_nil))) rfl))
  pss_nil)
 (pss_cons (ps_set (i := 5) sc.nd rfl (.inl rfl) (pe_lst pa_nil))
 (pss_cons (ps_while (passes_of rfl) (pt_cmp (pc_din (hu_of hr) (pe_fldK K rfl (pv 0)) (pe_fldK K rfl (pv 0))))
  (pss_cons (ps_asg (pe_dpop1 (pe_fldK K rfl (pv 0)) (pe_fldK K rfl (pv 0)) ⟨by rfl, by rfl, by rfl, by rfl⟩) (pg_tup rfl (pgs_cons (pg_name (i := 6) sc.nd rfl (.inl rfl)) (pgs_cons (pg_name (i := 7) sc.nd rfl (.inl rfl)) pgs_nil))))
 (pss_cons (ps_fldaugK K rfl (pv 0) pe_int in_add)
 (pss_cons (ps_expr (pe_bmK K rfl PySem.F.plainAttrs_list PySem.F.slot_list_extend PySem.F.type_list_extend mt_extend (pe_fldK K rfl (pv 0)) (pa_cons (pv 7) pa_nil)))
 (pss_one (ps_if (pt_cmpR op_eq (pv 6) pe_int (nomark _))
  (pss_cons (ps_expr (pe_bmK K rfl PySem.F.plainAttrs_list PySem.F.slot_list_append PySem.F.type_list_append mt_append (pv 5) (pa_cons (pe_methP (pe_fldK K rfl (pv 0)) c_Book_unpack hr (passes_call (takes_of rfl rfl rfl rfl) (fun _ _ _ _ h => h)) (pa_cons (pe_fldK K rfl (pv 0)) pa_nil)) pa_nil)))
 (pss_one (ps_fldK K rfl (pv 0) (pe_lst pa_nil))))
  pss_nil))))))
 (pss_one (ps_ret (pv 5))))))), ?_⟩
    have R0 : Rn K H (tG (inTs CB CI i idx ibr ibl ik ig iP place ks bg)).ft (knW iP ++ (knK ks ++ [])) (inTs CB CI i idx ibr ibl ik ig iP place ks bg) H := ((Rn.start hp).knows htk).knows htw
    clear htw htk hp
    have hpl : 0 ≤ (num - (place : Int)) % 8 ∧ (num - (place : Int)) % 8 < 8 := by omega
    obtain ⟨ah, hah⟩ : ∃ ah : Nat, (num - (place : Int)) % 8 = (ah : Int) := ⟨((num - (place : Int)) % 8).toNat, by omega⟩
    refine ⟨_, rfl, _, rfl, i, CI, idx, _, _, rfl, R0.at 0 rfl, R.cls, R.n1, rfl, _, _, rfl, rfl, _, _, rfl, rfl, (by show (0 : Int) < 8; decide), ?_⟩
    refine name_by ?_
    dsimp only
    rw [hah]
    refine if_by (J := fun σ1 H1 => ∃ (t : Addr) (ks1 : List KT), σ1 = [some (.ref i), some (.int num), some (.int last), some (.ref pa), some (.int (ah : Int)), none, none, none] ∧ ks1 = inPut ks place num last t pa bits ∧ Rn K H (tG (inTs CB CI i idx ibr ibl ik ig iP place ks bg)).ft (knW iP ++ (knK ks1 ++ [])) (inTs CB CI i idx ibr ibl ik ig iP place ks1 bg) H1) ?_ (fun rest => ?_)
    · rintro σ1 H1 ⟨t, ks1, rfl, e1, R1⟩
      obtain ⟨q1, q2⟩ := q t
      rw [← e1] at q1 q2
      have hl1 : ks1.length ≤ ks.length + 1 := by rw [e1]; exact inPut_len
      have hkb1 : KbOk (tG (inTs CB CI i idx ibr ibl ik ig iP place ks bg)).ft ks1 H := fun x hx => by
        rw [e1] at hx
        rcases inPut_mem hx with z | ⟨z1, z2, z3, z4⟩
        · exact hkb x z
        · rw [z3, z4]
          exact ⟨hpa, hpaF, hbits, hbl⟩
      clear q hkb hpa hpaF e1
      refine ⟨Nat.zero_le _, fun o no => ?_⟩
      have R2 : Rn K H (tG (inTs CB CI i idx ibr ibl ik ig iP place ks bg)).ft (knW iP ++ (knK ks1 ++ [])) ([tL o (refsR []), tG (([] : List (Addr × List Int)).map fR)] ++ inTs CB CI i idx ibr ibl ik ig iP place ks1 bg) _ := ((R1.newL (xs := []) no).gnil (f := fR)).sel [1, 0, 2, 3, 4, 5] (by decide)
      generalize upd H1 o (.lst []) = H2 at R2 ⊢
      clear R1 no R0
      refine name_by ?_
      dsimp only
      refine seq_by (J := fun σ1 H3 => ∃ (ibl' ig' : Addr) (iP' : List WP) (p' : Nat) (ks' : List KT) (bg' : List Int) (rs : List (Addr × List Int)) (y6 y7 : Option V), σ1 = [some (.ref i), some (.int num), some (.int last), some (.ref pa), some (.int (ah : Int)), some (.ref o), y6, y7] ∧ inGo (ks.length + 2) (wsOf iP) place ks1 bg [] = .ok (wsOf iP') p' ks' bg' (rs.map fun r => r.2) ∧
        Rn K H (tG (inTs CB CI i idx ibr ibl ik ig iP place ks bg)).ft (knW iP' ++ (knK ks' ++ [])) ([tL o (refsR rs), tG (rs.map fR)] ++ inTs CB CI i idx ibr ibl' ik ig' iP' p' ks' bg') H3) ?_ (fun rest => ?_)
      · rintro σ1 H3 ⟨ibl', ig', iP', p', ks', bg', rs, y6, y7, rfl, er, R3⟩
        refine ⟨_, rfl, q1 _ _ _ _ _ er H3 o ibl' ig' iP' rs rfl rfl (fun q hq => R3.hw.tf q (List.mem_append_left _ hq)) (fun q hq => R3.hw.tf q (List.mem_append_right _ (List.mem_append_left _ hq))) ?_⟩
        have R4 : Rn K H _ _ (rs.map fR ++ (tL o (refsR rs) :: inTs CB CI i idx ibr ibl' ik ig' iP' p' ks' bg')) H3 := (R3.sel [1, 0, 2, 3, 4, 5] (by decide)).ungrp
        exact (R4.perm List.perm_middle).out
      · refine ⟨fun m σ H3 => ∃ (fuel : Nat) (ibl' ig' : Addr) (iP' : List WP) (p' : Nat) (ks' : List KT) (bg' : List Int) (rs : List (Addr × List Int)) (y6 y7 : Option V), m = ks'.length ∧ σ = [some (.ref i), some (.int num), some (.int last), some (.ref pa), some (.int (ah : Int)), some (.ref o), y6, y7] ∧ ks'.length < fuel ∧ inGo fuel (wsOf iP') p' ks' bg' (rs.map fun r => r.2) = inGo (ks.length + 2) (wsOf iP) place ks1 bg [] ∧ W61 (wsOf iP') ∧ (∀ x ∈ ks', x ∈ ks1) ∧ Bits bg' ∧ bg'.length + 40 * ks'.length ≤ 9300 ∧ rs.length + ks'.length ≤ 40 ∧
          Rn K H (tG (inTs CB CI i idx ibr ibl ik ig iP place ks bg)).ft (knW iP' ++ (knK ks' ++ [])) ([tL o (refsR rs), tG (rs.map fR)] ++ inTs CB CI i idx ibr ibl' ik ig' iP' p' ks' bg') H3, ⟨_, ks.length + 2, ibl, ig, iP, place, ks1, bg, [], _, _, rfl, rfl, by omega, rfl, hw61, fun x hx => hx, hbg, by omega, by show 0 + _ ≤ 40; omega, R2⟩, ?_⟩
        clear R2
        rintro m σ H3 ⟨fuel, ibl', ig', iP', p', ks', bg', rs, y6, y7, rfl, rfl, hfu, er, hw, hsub, hbb, hbl2, hrl, R3⟩
        obtain ⟨fu, rfl⟩ : ∃ fu, fuel = fu + 1 := ⟨fuel - 1, by omega⟩
        refine ⟨_, rfl, i, CI, idx, _, _, rfl, R3.at 2 rfl, R.cls, R.n1, rfl, _, rfl, i, CI, idx, _, _, rfl, R3.at 2 rfl, R.cls, R.n2, rfl, ik, _, rfl, DGet.k (k := .inl (p' : Int)) (R3.at 4 rfl), _, rfl, ?_⟩
        rw [kept_val]
        cases hg : kGet ks' p' with
        | none =>
          refine iteF ?_
          have er2 : inGo (fu + 1) (wsOf iP') p' ks' bg' (rs.map fun r => r.2) = .ok (wsOf iP') p' ks' bg' (rs.map fun r => r.2) := by
            unfold inGo
            rw [hg]
          exact rest _ _ ⟨ibl', ig', iP', p', ks', bg', rs, y6, y7, rfl, er.symm.trans er2, R3⟩
        | some x =>
          refine iteT ?_
          obtain ⟨hxm, hxk⟩ := kGet_some hg
          have hdl := kDrop_len hg
          obtain ⟨x1, x2, x3, x4⟩ := hkb1 x (hsub x hxm)
          have ht3 : SqT K H3 x.t (ktV x) := R3.hw.tf _ (List.mem_append_right _ (List.mem_append_left _ (List.mem_map.mpr ⟨x, hxm, rfl⟩)))
          refine ⟨fun σ' H' => ∃ (fuel : Nat) (ibl' ig' : Addr) (iP' : List WP) (bg' : List Int) (rs : List (Addr × List Int)) (y6 y7 : Option V), σ' = [some (.ref i), some (.int num), some (.int last), some (.ref pa), some (.int (ah : Int)), some (.ref o), y6, y7] ∧ (kDrop ks' p').length < fuel ∧ inGo fuel (wsOf iP') (p' + 1) (kDrop ks' p') bg' (rs.map fun r => r.2) = inGo (ks.length + 2) (wsOf iP) place ks1 bg [] ∧ W61 (wsOf iP') ∧ Bits bg' ∧ bg'.length + 40 * (kDrop ks' p').length ≤ 9300 ∧ rs.length + (kDrop ks' p').length ≤ 40 ∧
            Rn K H (tG (inTs CB CI i idx ibr ibl ik ig iP place ks bg)).ft (knW iP' ++ (knK (kDrop ks' p') ++ [])) ([tL o (refsR rs), tG (rs.map fR)] ++ inTs CB CI i idx ibr ibl' ik ig' iP' (p' + 1) (kDrop ks' p') bg') H', ?_, ?_⟩
          · rintro σ' H' ⟨fuel, ibl', ig', iP', bg', rs, y6, y7, a1, a2, a3, a4, a5, a6, a7, a8⟩
            exact ⟨_, hdl, fuel, ibl', ig', iP', p' + 1, kDrop ks' p', bg', rs, y6, y7, rfl, a1, a2, a3, a4, fun x hx => hsub x (kDrop_sub x hx), a5, a6, a7, a8⟩
          refine ⟨_, rfl, i, CI, idx, _, _, rfl, R3.at 2 rfl, R.cls, R.n2, rfl, ik, rfl, .inl ⟨_, .inl (R3.at 4 rfl)⟩, _, rfl, i, CI, idx, _, _, rfl, R3.at 2 rfl, R.cls, R.n1, rfl, keptD ks', .inl (p' : Int), .ref x.t, R3.at 4 rfl, rfl, by rw [kept_val, hg]; rfl, ?_⟩
          rw [kept_drop]
          have R4 := R3.put (o' := .dK (keptD (kDrop ks' p'))) 4 rfl
          have ht4 : SqT K (upd H3 ik (.dK (keptD (kDrop ks' p')))) x.t (ktV x) := R4.hw.tf _ (List.mem_append_right _ (List.mem_append_left _ (List.mem_map.mpr ⟨x, hxm, rfl⟩)))
          generalize upd H3 ik (.dK (keptD (kDrop ks' p'))) = H4 at R4 ht4 ⊢
          clear ht3
          refine ⟨x.t, _, rfl, ht4, rfl, _, _, rfl, _, _, rfl, rfl, ?_⟩
          refine ⟨_, rfl, i, CI, idx, _, _, rfl, R4.at 3 rfl, R.cls, R.n1, rfl, _, _, rfl, rfl, ?_⟩
          refine ⟨_, _, R4.at 3 rfl, (by show 4 < 1000; decide), ?_⟩
          have e6 : putF "place" (.int ((p' : Int) + 1)) (inF ibr (p' : Int) ik ig') = inF ibr ((p' + 1 : Nat) : Int) ik ig' := rfl
          rw [e6]
          have R5 := R4.put (o' := .ins CI idx (inF ibr ((p' + 1 : Nat) : Int) ik ig')) 3 rfl
          generalize upd H4 i (.ins CI idx (inF ibr ((p' + 1 : Nat) : Int) ik ig')) = H5 at R5 ⊢
          clear R4 ht4 R3
          have hba := R5.keep x2 x1
          refine ⟨_, rfl, i, CI, idx, _, _, rfl, R5.at 0 rfl, R.cls, R.n3, rfl, .inl ⟨rfl, _, SqL.of (R5.at 5 rfl)⟩, _, rfl, ig', x.ba, _, _, rfl, rfl, R5.at 5 rfl, hba, ?_, ?_⟩
          · rw [List.length_map, List.length_map]
            exact Nat.le_trans (show _ ≤ 10000 by omega) (by decide)
          have R6 := R5.put (o' := .lst (bg'.map V.int ++ x.bits.map V.int)) 5 rfl
          rw [← List.map_append] at R6 ⊢
          have hbb6 : Bits (bg' ++ x.bits) := bits_app hbb x3
          have hbl6 : (bg' ++ x.bits).length + 40 * (kDrop ks' p').length ≤ 9300 := by
            rw [List.length_append]
            omega
          have R7 : Rn K H (tG (inTs CB CI i idx ibr ibl ik ig iP place ks bg)).ft (knW iP' ++ (knK (kDrop ks' p') ++ [])) ([tL o (refsR rs), tG (rs.map fR)] ++ inTs CB CI i idx ibr ibl' ik ig' iP' (p' + 1) (kDrop ks' p') (bg' ++ x.bits)) _ := (R6.sel [3, 4, 1, 5, 2, 0] (by decide)).selT (fun q hq => by
            rw [List.append_nil] at hq ⊢
            rcases List.mem_append.mp hq with z | z
            · exact List.mem_append_left _ z
            · obtain ⟨y, hy, rfl⟩ := List.mem_map.mp z
              exact List.mem_append_right _ (List.mem_map.mpr ⟨y, kDrop_sub y hy, rfl⟩))
          generalize upd H5 ig' (.lst ((bg' ++ x.bits).map V.int)) = H6 at R7 ⊢
          clear R5 R6 hba
          have eg : inGo (fu + 1) (wsOf iP') p' ks' bg' (rs.map fun r => r.2) = if x.last = 1 then (match bkUnpack (wsOf iP') (bg' ++ x.bits) with
            | .ok row ws' => inGo fu ws' (p' + 1) (kDrop ks' p') [] (rs.map (fun r => r.2) ++ [row])
            | e => .bad e) else inGo fu (wsOf iP') (p' + 1) (kDrop ks' p') (bg' ++ x.bits) (rs.map fun r => r.2) := by
            conv => lhs; unfold inGo
            rw [hg]
            all_goals rfl
          rw [er] at eg
          refine ⟨_, rfl, rfl, _, rfl, ite2 (fun e => ?_) (fun e => ?_)⟩
          · have e : x.last = 1 := V.int.inj (of_decide_eq_true e)
            rw [if_pos e] at eg
            obtain ⟨⟨bdx, hb⟩, _⟩ : Bk CB ibr ibl' iP' H6 := R7.get 3 rfl
            have bk6 : Bk CB ibr ibl' iP' H6 := R7.get 3 rfl
            have bad : ∀ (u : UnO), (∀ r w', u ≠ .ok r w') → bkUnpack (wsOf iP') (bg' ++ x.bits) = u → ∀ (H' : Hp) (d cx : Addr), Same H6 H' → UxO cF cL cC u cx (H' d) → E (.ref cx) (some d) H' := fun u hu eu H' d cx s1 hx => by
              rw [eu] at eg
              refine q2 u ?_ H' d cx (R7.mv.same s1) (fun a o e n => s1 a o (R7.nt a o e n)) hx
              rw [eg]
              cases u with
              | ok r w' => exact absurd rfl (hu r w')
              | frame n => rfl
              | long => rfl
              | code n => rfl
            refine ⟨_, rfl, .inl ⟨rfl, _, SqL.of (R7.at 0 rfl)⟩, _, rfl, i, CI, idx, _, _, rfl, R7.at 2 rfl, R.cls, R.n0, rfl, ibr, bdx, _, rfl, hb, rfl, _, rfl, i, CI, idx, _, _, rfl, R7.at 2 rfl, R.cls, R.n3, rfl, ibr, ibl', ig', iP', bg' ++ x.bits, rfl, bk6, (fun q hq => R7.hw.tf q (List.mem_append_left _ hq)), hw, SqL.of (R7.at 5 rfl), by omega, (fun _ row ws' ew H7 l7 o7 P7 m7 nl7 no7 nol7 bk7 tw7 ews7 eo7 => ?_), (fun _ n en H' d s1 nd ed => bad (.frame n) (fun _ _ z => by cases z) en H' d cF s1 ⟨rfl, ed⟩), (fun _ en H' d s1 nd ed => bad .long (fun _ _ z => by cases z) en H' d cL s1 ⟨rfl, ed⟩), (fun _ n en H' d s1 nd ed => bad (.code n) (fun _ _ z => by cases z) en H' d cC s1 ⟨rfl, ed⟩), (fun j z hz nz => absurd (hbb6 z (List.mem_of_getElem? hz)) nz)⟩
            clear bad
            rw [ew] at eg
            have eg : inGo (ks.length + 2) (wsOf iP) place ks1 bg [] = inGo fu ws' (p' + 1) (kDrop ks' p') [] (rs.map (fun r => r.2) ++ [row]) := eg
            have u7 : Up (tBk CB ibr ibl' iP') [tL o7 (row.map V.int), tBk CB ibr l7 P7] H6 H7 := up_mvN (T := tBk CB ibr ibl' iP') (T' := tBk CB ibr l7 P7) (N := tL o7 (row.map V.int)) bk6 m7 (fun a ha => by rw [in1 ha]; exact .head _) bk7 (fun a ha => by
              rcases in2u ha with rfl | rfl
              · exact .inl (.head _)
              · exact .inr nl7) ⟨eo7, trivial⟩ (fun a ha => by
              rw [in1 ha]
              refine ⟨no7, fun z => ?_⟩
              rcases in2u z with z | z
              · rw [z, hb] at no7
                cases no7
              · exact nol7 z)
            have R8 := (R7.up 3 rfl u7).knows tw7
            clear R7 u7 bk7 bk6 m7 nl7 nol7 no7 eo7
            refine ⟨o, _, _, rfl, rfl, R8.at 2 rfl, ?_, ?_⟩
            · rw [List.length_map]
              exact sz4l (by omega)
            have R9 := R8.put (o' := .lst (refsR rs ++ [.ref o7])) 2 rfl
            generalize upd H7 o (.lst (refsR rs ++ [.ref o7])) = H8 at R9 ⊢
            have e9 : refsR rs ++ [.ref o7] = refsR (rs ++ [(o7, row)]) := by
              unfold refsR
              rw [List.map_append]
              rfl
            rw [e9] at R9
            have R10 : Rn K H (tG (inTs CB CI i idx ibr ibl ik ig iP place ks bg)).ft (knW P7 ++ (knK (kDrop ks' p') ++ [])) (tG ((rs ++ [(o7, row)]).map fR) :: [tL o (refsR (rs ++ [(o7, row)])), tBk CB ibr l7 P7, tO i (.ins CI idx (inF ibr ((p' + 1 : Nat) : Int) ik ig')), tO ik (.dK (keptD (kDrop ks' p'))), tL ig' ((bg' ++ x.bits).map V.int)]) H8 := (Rn.gadd (f := fR) (z := (o7, row)) (Y := rs) (R9.sel [1, 3, 0, 2, 4, 5, 6] (by decide))).selT (fun q hq => by
              rcases List.mem_append.mp hq with z | z
              · exact List.mem_append_left _ z
              · exact List.mem_append_right _ (List.mem_append_right _ z))
            clear R8 R9
            refine ⟨Nat.zero_le _, fun g ng => ?_⟩
            have R11 := R10.newL (xs := []) ng
            generalize upd H8 g (.lst []) = H9 at R11 ⊢
            refine ⟨_, rfl, i, CI, idx, _, rfl, R11.at 4 rfl, R.cls, R.n3, (by show 4 < 1000; decide), ?_⟩
            have e12 : putF "begun" (.ref g) (inF ibr ((p' + 1 : Nat) : Int) ik ig') = inF ibr ((p' + 1 : Nat) : Int) ik g := rfl
            rw [e12]
            have R12 := (R11.put (o' := .ins CI idx (inF ibr ((p' + 1 : Nat) : Int) ik g)) 4 rfl).sel [3, 2, 0, 4, 5, 1] (by decide)
            generalize upd H9 i (.ins CI idx (inF ibr ((p' + 1 : Nat) : Int) ik g)) = H10 at R12 ⊢
            refine ⟨fu, l7, g, P7, [], rs ++ [(o7, row)], _, _, rfl, by omega, ?_, by rw [ews7]; exact w61_unpack hw ew, fun z hz => absurd hz List.not_mem_nil, by show 0 + _ ≤ 9300; omega, by rw [List.length_append]; show rs.length + 1 + _ ≤ 40; omega, R12⟩
            rw [ews7, List.map_append]
            exact eg.symm
          · have e : ¬ x.last = 1 := fun z => e (by rw [z]; rfl)
            rw [if_neg e] at eg
            unfold tNext
            dsimp only
            exact ⟨fu, ibl', ig', iP', bg' ++ x.bits, rs, _, _, rfl, by omega, eg.symm, hw, hbb6, hbl6, by omega, R7⟩
    · have hk0 := R0.at 2 rfl
      refine ifP (decide (ah < 4) && (kGet ks (place + ah)).isNone) (fun Qb qb => ?_) (fun e => ?_) (fun e => ?_)
      · refine ⟨_, rfl, _, _, rfl, rfl, _, rfl, ite2 (fun e4 => ?_) (fun e4 => ?_)⟩
        · have e4 : ah < 4 := by
            have := of_decide_eq_true e4
            omega
          refine ⟨_, rfl, i, CI, idx, _, _, rfl, R0.at 0 rfl, R.cls, R.n1, rfl, _, rfl, _, _, rfl, rfl, _, rfl, i, CI, idx, _, _, rfl, R0.at 0 rfl, R.cls, R.n2, rfl, ik, _, rfl, DGet.k (k := .inl (((place + ah : Nat)) : Int)) hk0, _, rfl, ?_⟩
          rw [kept_val]
          rw [decide_eq_true e4, Bool.true_and] at qb
          cases hg : kGet ks (place + ah) with
          | none => rw [hg] at qb; exact qb
          | some x => rw [hg] at qb; exact qb
        · have e4 : ¬ ah < 4 := fun z => e4 (decide_eq_true (by omega))
          rw [decide_eq_false e4] at qb
          exact qb
      · rw [Bool.and_eq_true] at e
        obtain ⟨e4, eg⟩ := e
        have e4 : ah < 4 := of_decide_eq_true e4
        have eg : kGet ks (place + ah) = none := by
          cases hg : kGet ks (place + ah) with
          | none => rfl
          | some x => rw [hg] at eg; cases eg
        refine ⟨_, rfl, _, rfl, (by show 2 ≤ sizeLine; decide), fun t nt => ?_⟩
        have R1 := R0.newT (xs := [.int last, .ref pa]) nt
        generalize upd H t (.tup [.int last, .ref pa]) = H1 at R1 ⊢
        refine ⟨_, rfl, i, CI, idx, _, _, rfl, R1.at 0 rfl, R.cls, R.n2, rfl, _, rfl, i, CI, idx, _, _, rfl, R1.at 0 rfl, R.cls, R.n1, rfl, _, rfl, _, _, rfl, rfl, ik, _, rfl, DPut.k (k := .inl (((place + ah : Nat)) : Int)) (R1.at 2 rfl) ?_, ?_⟩
        · rw [List.length_map]
          exact sz4l (by omega)
        rw [putK_of (last := last) (pa := pa) (bits := bits) eg]
        have R2 := (R1.put (o' := .dK (keptD (ks ++ [⟨place + ah, t, last, pa, bits⟩]))) 2 rfl).sel [1, 2, 0, 3] (by decide)
        have ei : inPut ks place num last t pa bits = ks ++ [⟨place + ah, t, last, pa, bits⟩] := by
          unfold inPut
          rw [hah]
          exact if_pos ⟨e4, eg⟩
        refine rest _ _ ⟨t, _, rfl, ei.symm, R2.selT (fun q hq => ?_)⟩
        rcases List.mem_append.mp hq with z | z
        · exact .tail _ (List.mem_append_left _ z)
        · rw [List.append_nil, knK, List.map_append] at z
          rcases List.mem_append.mp z with z | z
          · exact .tail _ (List.mem_append_right _ (List.mem_append_left _ z))
          · rw [List.mem_singleton.mp z]
            exact .head _
      · have ei : inPut ks place num last 0 pa bits = ks := by
          unfold inPut
          rw [hah]
          refine if_neg fun z => ?_
          rw [show ((ah : Int)).toNat = ah from rfl] at z
          rw [decide_eq_true z.1, z.2] at e
          cases e
        exact rest _ _ ⟨0, _, rfl, ei.symm, R0⟩
theorem sc_Link_take : FnScope ["self", "payload", "number", "answer", "comes", "last", "piece", "rows", "intake"] ["self", "payload"] (defScope m_Link_take) := ⟨rfl, rfl, rfl, by decide +kernel, rfl, by decide +kernel, by decide +kernel⟩
/-- a payload taken -/
def spLkTake (K : PySem.W.Frag) (CB CI CL cB cF cL cC : Addr) : Sp := fun vs H Q E => ∃ (A : LA) (S : LkS) (a : Addr) (ns : List Int), vs = [.ref A.r, .ref a] ∧ (tLk CB CI CL A S).P H ∧ TF K (knP S.sent) H ∧ S.sent.length ≤ 1000 ∧ TF K (knW S.iP) H ∧ TF K (knK S.kept) H ∧ W61 (wsOf S.iP) ∧ KbOk (tLk CB CI CL A S).ft S.kept H ∧ SqL K H a (ns.map V.int) ∧ ns.length ≤ 10000 ∧ Bits S.begun ∧ S.begun.length ≤ 8000 ∧ S.kept.length ≤ 30 ∧
  (Bits ns → 8 ≤ ns.length → pForm ns = true → pCom ns = 0 → ∀ (H' : Hp) (o p s' : Addr) (ms : List Int), SrtP S.sent ms → Up (tLk CB CI CL A S) (tL o [] :: tL p ((ns.drop 8).map V.int) :: lkTs CB CI CL { A with s := s' } { S with sent := ansL S.sent ms (pAns ns) }) H H' → Q (.ref o) H') ∧
  (Bits ns → 8 ≤ ns.length → pForm ns = true → pCom ns = 1 → ∀ t pa : Addr,
    (∀ ws p' ks' bg' rows, inGo (S.kept.length + 2) (wsOf S.iP) S.place (inPut S.kept S.place (pNum ns) (pLast ns) t pa (ns.drop 8)) S.begun [] = .ok ws p' ks' bg' rows → ∀ (H' : Hp) (o i' idx' ibr' ibl' ik' ig' s' : Addr) (iP' : List WP) (rs : List (Addr × List Int)) (ms : List Int), SrtP S.sent ms → rs.map (fun r => r.2) = rows → wsOf iP' = ws → TF K (knW iP') H' → TF K (knK ks') H' →
      Up (tLk CB CI CL A S) (rs.map fR ++ (tL o (refsR rs) :: tL pa ((ns.drop 8).map V.int) :: lkTs CB CI CL { A with i := i', idx := idx', ibr := ibr', ibl := ibl', ik := ik', ig := ig', s := s' } { S with iP := iP', place := p', kept := ks', begun := bg', owes := true, sent := ansL S.sent ms (pAns ns) })) H H' → Q (.ref o) H') ∧
    (∀ e, inGo (S.kept.length + 2) (wsOf S.iP) S.place (inPut S.kept S.place (pNum ns) (pLast ns) t pa (ns.drop 8)) S.begun [] = .bad e → ∀ (H' : Hp) (d cx : Addr), Same H H' → UxO cF cL cC e cx (H' d) → E (.ref cx) (some d) H')) ∧
  (Bits ns → (ns.length < 8 ∨ pForm ns = false) → RefAt cF "BadFrame" 0 H E) ∧ (∀ (i : Nat) (z : Int), ns[i]? = some z → ¬ isB z → Bits (ns.take i) → RefAt cB "BadBit" i H E)
theorem pAns_lt {ns : List Int} (h : Bits ns) : 0 ≤ pAns ns ∧ pAns ns < 8 := by
  have hb : Bits ((ns.drop 3).take 3) := bits_take (fun z hz => h z (List.mem_of_mem_drop hz)) 3
  have b := bn_lt hb
  have hl : ((ns.drop 3).take 3).length ≤ 3 := by rw [List.length_take]; omega
  refine ⟨b.1, Int.lt_of_lt_of_le b.2 ?_⟩
  have : ∀ n : Nat, n ≤ 3 → (2 : Int) ^ n ≤ 8 := fun n hn => by
    match n, hn with
    | 0, _ => decide
    | 1, _ => decide
    | 2, _ => decide
    | 3, _ => decide
  exact this _ hl
theorem bit_at {ns : List Int} (h : Bits ns) (i : Nat) : ns.getD i 0 = 0 ∨ ns.getD i 0 = 1 := by
  rw [List.getD_eq_getElem?_getD]
  cases e : ns[i]? with
  | none => exact .inl rfl
  | some z => exact h z (List.mem_of_getElem? e)
theorem pForm_len {ns : List Int} (h : pForm ns = true) (h1 : pCom ns = 1) : 1 ≤ (ns.drop 8).length ∧ (ns.drop 8).length ≤ 40 := by
  unfold pForm formB at h
  rw [if_pos h1] at h
  exact of_decide_eq_true h
theorem fresh_out {Us : List Th} {H H' : Hp} {a : Addr} {o : HO} (u : Up (tG []) Us H H') (e : H a = some o) : a ∉ (tG Us).ft := fun z => by
  obtain ⟨x, hx, hz⟩ := flat_ft z
  rcases u.ow x hx a hz with y | y
  · cases y
  · rw [e] at y
    cases y
theorem ok_Link_take {f CB CI CL cB cF cL cC : Addr} {fd : FuncData} {k : Nat} (F : Fun K "take" "Link.take" m_Link_take f fd) (R : LkC K CL) (c_parted : CalX P w K mg base k "parted" ["payload"] (spParted K cB cF)) (c_Intake_twin : CalM CX0 P w K mg base k CI "twin" ["self"] (spInTwin CB CI)) (c_Intake_take_piece : CalM (L2.CX P w) P w K mg base k CI "take_piece" ["self", "number", "last", "piece"] (spTakeP K CB CI cF cL cC)) (c_Link_end_answered : CalM CX0 P w K mg base k CL "end_answered" ["self", "answer"] (spEnd K CB CI CL)) : FnOk P w K mg base (L2.CX P w) (k + 1) f fd ["self", "payload"] (spLkTake K CB CI CL cB cF cL cC) := by
  have sc := sc_Link_take
  refine F.okX sc (fun vs H Q E h => ?_) (fun cdv A_ outer s H vs Q E hr h => ?_)
  · obtain ⟨A, S, a, ns, rfl, _⟩ := h
    rfl
  · obtain ⟨A, S, a, ns, rfl, hp, ht, hsl, htw, htk, hw61, hkb, hS, hl, hbb, hbl, hkl, q0, q1, qf, qb⟩ := h
    refine ⟨_, (pss_cons (ps_asg (pe_callP c_parted hr (passes_call (takes_of rfl rfl rfl rfl) (fun _ _ _ _ h => h)) (by rfl) (pa_cons (pv 1) pa_nil)) (pg_tup rfl (pgs_cons (pg_name (i := 2) sc.nd rfl (.inl rfl)) (pgs_cons (pg_name (i := 3) sc.nd rfl (.inl rfl)) (pgs_cons (pg_name (i := 4) sc.nd rfl (.inl rfl)) (pgs_cons (pg_name (i := 5) sc.nd rfl (.inl rfl)) (pgs_cons (pg_name (i := 6) sc.nd rfl (.inl rfl)) pgs_nil)))))))
 (pss_cons (ps_set (i := 7) sc.nd rfl (.inl rfl) (pe_lst pa_nil))
 (pss_cons (ps_if (pt_cmpR op_eq (pv 4) pe_int (nomark _))
  (pss_cons (ps_set (i := 8) sc.nd rfl (.inl rfl) (pe_methC0 (pe_fldK K rfl (pv 0)) c_Intake_twin hr))
 (pss_cons (ps_set (i := 7) sc.nd rfl (.inl rfl) (pe_methP (pv 8) c_Intake_take_piece hr (passes_call (takes_of rfl rfl rfl rfl) (fun _ _ _ _ h => h)) (pa_cons (pv 2) (pa_cons (pv 5) (pa_cons (pv 6) pa_nil)))))
 (pss_cons (ps_fldK K rfl (pv 0) (pv 8))
 (pss_one (ps_fldK K rfl (pv 0) pe_bl)))))
  pss_nil)
 (pss_cons (ps_expr (pe_methC (pv 0) c_Link_end_answered hr (pa_cons (pv 3) pa_nil)))
 (pss_one (ps_ret (pv 7))))))), ?_⟩
    have R0 : Rn K H (tLk CB CI CL A S).ft (knW S.iP ++ (knK S.kept ++ [])) (lkTs CB CI CL A S) H := ((Rn.start hp).knows htk).knows htw
    refine ⟨_, rfl, a, ns, rfl, hS, hl, (fun hb h8 hf H1 t p s1 np ep et => ?_), qf, qb⟩
    have q0 := q0 hb h8 hf
    have q1 := q1 hb h8 hf
    clear qf qb
    have R1 := R0.newS s1 np ep
    refine ⟨t, _, rfl, et, rfl, _, _, rfl, _, _, rfl, _, _, rfl, _, _, rfl, _, _, rfl, rfl, ?_⟩
    dsimp only [List.set, L2.start]
    refine ⟨Nat.zero_le _, fun o no => ?_⟩
    have R2 := R1.newL (xs := []) no
    have s2 := s1.trans (same_upd (o := .lst []) no)
    have ep2 : upd H1 o (.lst []) p = some (.lst ((ns.drop 8).map V.int)) := same_upd (o := .lst []) no _ _ ep
    generalize upd H1 o (.lst []) = H2 at R2 s2 ep2 ⊢
    refine name_by ?_
    dsimp only
    have ha := pAns_lt hb
    refine if_by (J := fun σ1 H3 => ∃ (A1 : LA) (S1 : LkS) (o1 : Addr) (rs : List (Addr × List Int)) (L1 : List (Addr × List L2.V)) (y8 : Option V), σ1 = [some (.ref A.r), some (.ref a), some (.int (pNum ns)), some (.int (pAns ns)), some (.int (pCom ns)), some (.int (pLast ns)), some (.ref p), some (.ref o1), y8] ∧ A1.r = A.r ∧ S1.sent = S.sent ∧ Rn K H (tLk CB CI CL A S).ft L1 (lkTs CB CI CL A1 S1 ++ [tG (rs.map fR), tL o1 (refsR rs), tL p ((ns.drop 8).map V.int)]) H3 ∧
      (∀ (H' : Hp) (s' : Addr) (ms : List Int), SrtP S.sent ms → TF K L1 H' → Up (tLk CB CI CL A S) (rs.map fR ++ (tL o1 (refsR rs) :: tL p ((ns.drop 8).map V.int) :: lkTs CB CI CL { A1 with s := s' } { S1 with sent := ansL S.sent ms (pAns ns) })) H H' → Q (.ref o1) H')) ?_ (fun rest => ?_)
    · clear R0 R1 R2 s2 ep2 ep et s1 np no
      rintro σ1 H3 ⟨A1, S1, o1, rs, L1, y8, rfl, er, es, R3, qq⟩
      have R4 : Rn K H (tLk CB CI CL A S).ft L1 (tLk CB CI CL A1 S1 :: [tG (rs.map fR), tL o1 (refsR rs), tL p ((ns.drop 8).map V.int)]) H3 := R3.grp
      have hA : Hs [] (lkTs CB CI CL A1 S1) H3 := R4.get 0 rfl
      refine ⟨_, rfl, A.r, A1.dx, _, rfl, (by rw [← er]; exact hA.at 0 rfl), rfl, _, rfl, A1, S1, pAns ns, (by rw [er]; rfl), R4.get 0 rfl, (by rw [es]; exact fun q hq => R4.keepT (ht q hq)), by rw [es]; exact hsl, ha.1, ha.2, fun H4 s' ms hms u4 => ?_⟩
      rw [es] at hms u4
      have R5 := (R4.up 0 rfl u4).sel [8, 9, 10, 0, 1, 2, 3, 4, 5, 6, 7] (by decide)
      have R6 : Rn K H _ _ (rs.map fR ++ (tL o1 (refsR rs) :: tL p ((ns.drop 8).map V.int) :: lkTs CB CI CL { A1 with s := s' } { S1 with sent := ansL S.sent ms (pAns ns) })) H4 := R5.ungrp
      exact ⟨_, rfl, qq H4 s' ms hms R6.hw.tf R6.out⟩
    · refine ⟨_, rfl, rfl, _, rfl, ite2 (fun e => ?_) (fun e => ?_)⟩
      · have e : pCom ns = 1 := V.int.inj (of_decide_eq_true e)
        have q1 := q1 e
        obtain ⟨hp1, hp40⟩ := pForm_len hf e
        have hI2 : Hs [] (lkTs CB CI CL A S) H2 := (show Hs [] (lkTs CB CI CL A S) H from hp).same s2
        have hin : (tG (inTs CB CI A.i A.idx A.ibr A.ibl A.ik A.ig S.iP S.place S.kept S.begun)).P H2 := hI2.sel [4, 5, 6, 7] (by decide)
        refine ⟨_, rfl, A.r, CL, A.dx, _, _, rfl, R2.at 2 rfl, R.cls, R.n1, rfl, A.i, A.idx, _, rfl, R2.at 6 rfl, rfl, A.i, A.idx, A.ibr, A.ibl, A.ik, A.ig, S.iP, S.place, S.kept, S.begun, rfl, hin, fun H3 i' idx' ibr' ibl' ik' ig' u3 => ?_⟩
        have R3 := R2.upN u3
        have R3g := R3.grp
        have kb3 : KbOk (tG (inTs CB CI i' idx' ibr' ibl' ik' ig' S.iP S.place S.kept S.begun)).ft S.kept H3 := fun x hx => by
          obtain ⟨x1, x2, x3, x4⟩ := hkb x hx
          exact ⟨R3.keep x2 x1, fresh_out u3 (s2 _ _ x1), x3, x4⟩
        have pout := fresh_out u3 ep2
        have s3 : Same H2 H3 := u3.mv.toSame
        refine name_by ?_
        dsimp only
        refine ⟨_, rfl, i', idx', _, rfl, R3.at 0 rfl, rfl, _, rfl, _, rfl, _, rfl, i', idx', ibr', ibl', ik', ig', S.iP, S.place, S.kept, S.begun, pNum ns, pLast ns, p, ns.drop 8, rfl, R3g.get 0 rfl, (fun q hq => R3.hw.tf q (List.mem_append_left _ hq)), (fun q hq => R3.hw.tf q (List.mem_append_right _ (List.mem_append_left _ hq))), hw61, kb3, R3.at 5 rfl, pout, (fun z hz => hb z (List.mem_of_mem_drop hz)), hp40, hbb, hbl, hkl, fun t => ⟨fun ws p' ks' bg' rows eok H4 o4 ibl4 ig4 iP4 rs hrs hws tw4 tk4 u4 => ?_, fun e ebad H4 d cx m4 n4 hx => ?_⟩⟩
        · have R4 := R3g.up 0 rfl u4
          rw [List.append_assoc] at R4
          have R5 : Rn K H _ _ (rs.map fR ++ (tL o4 (refsR rs) :: (inTs CB CI i' idx' ibr' ibl4 ik' ig4 iP4 p' ks' bg' ++ (tL o [] :: tL p ((ns.drop 8).map V.int) :: lkTs CB CI CL A S)))) H4 := R4.perm List.perm_middle.symm
          have R6 := (((R5.grp).knows tk4).knows tw4).selT (L' := knW iP4 ++ knK ks') (fun q hq => by
            rcases List.mem_append.mp hq with z | z
            · exact List.mem_append_left _ z
            · exact List.mem_append_right _ (List.mem_append_left _ z))
          clear R3 R3g R4 R5 u4 u3 tk4 tw4 kb3 R2 R1 R0
          refine name_by ?_
          dsimp only
          refine ⟨_, rfl, _, rfl, A.r, CL, A.dx, _, rfl, R6.at 8 rfl, R.cls, R.n1, (by show 6 < 1000; decide), ?_⟩
          have e1 : putF "intake" (.ref i') (lkF A.br A.i (S.cut : Int) A.q A.s S.owes) = lkF A.br i' (S.cut : Int) A.q A.s S.owes := rfl
          rw [e1]
          have R7 := R6.put (o' := .ins CL A.dx (lkF A.br i' (S.cut : Int) A.q A.s S.owes)) 8 rfl
          generalize upd H4 A.r (.ins CL A.dx (lkF A.br i' (S.cut : Int) A.q A.s S.owes)) = H5 at R7 ⊢
          refine ⟨_, rfl, A.r, CL, A.dx, _, rfl, R7.at 0 rfl, R.cls, R.n5, (by show 6 < 1000; decide), ?_⟩
          have e2 : putF "owes" (.bl true) (lkF A.br i' (S.cut : Int) A.q A.s S.owes) = lkF A.br i' (S.cut : Int) A.q A.s true := rfl
          rw [e2]
          have R8 := (R7.put (o' := .ins CL A.dx (lkF A.br i' (S.cut : Int) A.q A.s true)) 0 rfl).sel [0, 9, 10, 11, 3, 4, 5, 6, 1, 2, 8] (by decide)
          generalize upd H5 A.r (.ins CL A.dx (lkF A.br i' (S.cut : Int) A.q A.s true)) = H6 at R8 ⊢
          refine rest _ _ ⟨{ A with i := i', idx := idx', ibr := ibr', ibl := ibl4, ik := ik', ig := ig4 }, { S with iP := iP4, place := p', kept := ks', begun := bg', owes := true }, o4, rs, knW iP4 ++ knK ks', _, rfl, rfl, rfl, R8, fun H' s' ms hms tf u => ?_⟩
          exact (q1 t p).1 ws p' ks' bg' rows eok H' o4 i' idx' ibr' ibl4 ik' ig4 s' iP4 rs ms hms hrs hws (fun q hq => tf q (List.mem_append_left _ hq)) (fun q hq => tf q (List.mem_append_right _ hq)) u
        · exact (q1 t p).2 e ebad H4 d cx (fun a u e => m4.kp a u (fresh_out u3 (s2 a u e)) (s3 a u (s2 a u e))) hx
      · have e : pCom ns = 0 := by
          rcases bit_at hb 6 with z | z
          · exact z
          · exact absurd (by show decide (V.int (ns.getD 6 0) = V.int 1) = true; rw [z]; rfl) e
        refine rest _ _ ⟨A, S, o, [], [], none, rfl, rfl, rfl, ((R2.gnil (f := fR)).sel [3, 4, 5, 6, 7, 8, 9, 10, 0, 1, 2] (by decide)).selT (fun q hq => absurd hq List.not_mem_nil), fun H' s' ms hms _ u => q0 e H' o p s' ms hms u⟩
/-! ### the law's pieces: tuples of a list and a number -/
structure QT where
  t : Addr
  ba : Addr
  last : Int
  bits : List Int
abbrev qtV (p : QT) : List L2.V := [.ref p.ba, .int p.last]
abbrev knQ (ps : List QT) : List (Addr × List L2.V) := ps.map fun p => (p.t, qtV p)
abbrev refsQ (ps : List QT) : List L2.V := ps.map fun p => .ref p.t
abbrev fQ (p : QT) : Th := tL p.ba (p.bits.map L2.V.int)
structure QcsOf (bs : List Int) (n : Nat) (new : List QT) : Prop where
  len : new.length = n
  all : ∀ (j : Nat) (p : QT), new[j]? = some p → p.last = pcL bs j ∧ p.bits = pcB bs j
theorem QcsOf.nil {bs : List Int} : QcsOf bs 0 [] := ⟨rfl, fun j p h => by cases h⟩
theorem QcsOf.more {bs : List Int} {n : Nat} {new : List QT} {x : QT} (h : QcsOf bs n new) (e : x.last = pcL bs n ∧ x.bits = pcB bs n) : QcsOf bs (n + 1) (new ++ [x]) := ⟨by rw [List.length_append, h.len]; rfl, fun j p hp => by
  by_cases hj : j < new.length
  · rw [List.getElem?_append_left hj] at hp
    exact h.all j p hp
  · have hl := h.len
    rw [List.getElem?_append_right (by omega)] at hp
    have e0 : j - new.length = 0 := by
      have := (List.getElem?_eq_some_iff.mp hp).1
      simp at this
      omega
    rw [e0] at hp
    cases hp
    have : j = n := by omega
    rw [this]
    exact e⟩
def spLPcs (K : PySem.W.Frag) : Sp := fun vs H Q _ => ∃ (a : Addr) (bs : List Int), vs = [.ref a] ∧ H a = some (.lst (bs.map L2.V.int)) ∧ bs.length ≤ 1000 ∧ ∀ (H' : Hp) (o : Addr) (new : List QT), QcsOf bs (pcN bs) new → TF K (knQ new) H' → Up (tG []) (tL o (refsQ new) :: new.map fQ) H H' → Q (.ref o) H'
theorem tIf_val {c : TT} {x y : L2.V} {σ : L2.St} {H : Hp} {Q : VK} (h : c σ H fun b H1 => Q (if b = true then x else y) H1) : tIf c (tC x) (tC y) σ H Q := by
  have e : (fun (b : Bool) (H1 : Hp) => if b = true then tC x σ H1 Q else tC y σ H1 Q) = fun b H1 => Q (if b = true then x else y) H1 := by
    funext b H1
    cases b <;> rfl
  show c σ H (fun (b : Bool) (H1 : Hp) => if b = true then tC x σ H1 Q else tC y σ H1 Q)
  rw [e]
  exact h
def spLTold (K : PySem.W.Frag) : Sp := fun vs H Q _ => ∃ (n a : Int) (p : QT), vs = [.int n, .int a, .ref p.t] ∧ SqT K H p.t (qtV p) ∧ H p.ba = some (.lst (p.bits.map L2.V.int)) ∧ p.bits.length ≤ 1000 ∧ ∀ (H' : Hp) (o : Addr), Same H H' → H o = none → H' o = some (.lst ((headL (n % 8) (a % 8) 1 p.last ++ p.bits).map L2.V.int)) → Q (.ref o) H'
def spLAns : Sp := fun vs H Q _ => ∃ (a : Int), vs = [.int a] ∧ ∀ (H' : Hp) (o : Addr), Same H H' → H o = none → H' o = some (.lst ((headL 0 (a % 8) 0 0).map L2.V.int)) → Q (.ref o) H'
/-! ### the law's sender: a dict with pieces, base, sent and order -/
abbrev sdT (p10 b11 s12 o13 : L2.V) : List (Key × L2.V) := [(.inr "pieces", p10), (.inr "base", b11), (.inr "sent", s12), (.inr "order", o13)]
section
variable {p10 b11 s12 o13 v : L2.V} {H : Hp} {d : Addr}
theorem sd_pieces_base : ¬ (Str.ofString "pieces") = Str.ofString "base" := by decide
theorem sd_pieces_sent : ¬ (Str.ofString "pieces") = Str.ofString "sent" := by decide
theorem sd_pieces_order : ¬ (Str.ofString "pieces") = Str.ofString "order" := by decide
theorem sd_base_pieces : ¬ (Str.ofString "base") = Str.ofString "pieces" := by decide
theorem sd_base_sent : ¬ (Str.ofString "base") = Str.ofString "sent" := by decide
theorem sd_base_order : ¬ (Str.ofString "base") = Str.ofString "order" := by decide
theorem sd_sent_pieces : ¬ (Str.ofString "sent") = Str.ofString "pieces" := by decide
theorem sd_sent_base : ¬ (Str.ofString "sent") = Str.ofString "base" := by decide
theorem sd_sent_order : ¬ (Str.ofString "sent") = Str.ofString "order" := by decide
theorem sd_order_pieces : ¬ (Str.ofString "order") = Str.ofString "pieces" := by decide
theorem sd_order_base : ¬ (Str.ofString "order") = Str.ofString "base" := by decide
theorem sd_order_sent : ¬ (Str.ofString "order") = Str.ofString "sent" := by decide
theorem sdn_pieces_base : ¬ (Sum.inr "pieces" : Key) = .inr "base" := by decide
theorem sdn_pieces_sent : ¬ (Sum.inr "pieces" : Key) = .inr "sent" := by decide
theorem sdn_pieces_order : ¬ (Sum.inr "pieces" : Key) = .inr "order" := by decide
theorem sdn_base_sent : ¬ (Sum.inr "base" : Key) = .inr "sent" := by decide
theorem sdn_base_order : ¬ (Sum.inr "base" : Key) = .inr "order" := by decide
theorem sdn_sent_order : ¬ (Sum.inr "sent" : Key) = .inr "order" := by decide
theorem sdg_pieces (hd : H d = some (.dK (sdT p10 b11 s12 o13))) : DGet H d (.str "pieces") (some p10) := by
  have g := DGet.k (k := .inr "pieces") hd
  rwa [valV_pos rfl] at g
theorem sdg_base (hd : H d = some (.dK (sdT p10 b11 s12 o13))) : DGet H d (.str "base") (some b11) := by
  have g := DGet.k (k := .inr "base") hd
  rwa [valV_neg sdn_pieces_base, valV_pos rfl] at g
theorem sdg_sent (hd : H d = some (.dK (sdT p10 b11 s12 o13))) : DGet H d (.str "sent") (some s12) := by
  have g := DGet.k (k := .inr "sent") hd
  rwa [valV_neg sdn_pieces_sent, valV_neg sdn_base_sent, valV_pos rfl] at g
theorem sdg_order (hd : H d = some (.dK (sdT p10 b11 s12 o13))) : DGet H d (.str "order") (some o13) := by
  have g := DGet.k (k := .inr "order") hd
  rwa [valV_neg sdn_pieces_order, valV_neg sdn_base_order, valV_neg sdn_sent_order, valV_pos rfl] at g
theorem sdp_pieces (hd : H d = some (.dK (sdT p10 b11 s12 o13))) : DPut H d (.str "pieces") v (upd H d (.dK (sdT v b11 s12 o13))) := by
  have g := DPut.k (k := .inr "pieces") (v := v) hd (by show 4 < sizeLine; decide)
  have ep : putK (sdT p10 b11 s12 o13) (.inr "pieces") v = sdT v b11 s12 o13 := by
    unfold putK
    rw [valV_any, valV_pos rfl]
    simp [sd_base_pieces, sd_sent_pieces, sd_order_pieces]
  rwa [ep] at g
theorem sdp_base (hd : H d = some (.dK (sdT p10 b11 s12 o13))) : DPut H d (.str "base") v (upd H d (.dK (sdT p10 v s12 o13))) := by
  have g := DPut.k (k := .inr "base") (v := v) hd (by show 4 < sizeLine; decide)
  have ep : putK (sdT p10 b11 s12 o13) (.inr "base") v = sdT p10 v s12 o13 := by
    unfold putK
    rw [valV_any, valV_neg sdn_pieces_base, valV_pos rfl]
    simp [sd_pieces_base, sd_sent_base, sd_order_base]
  rwa [ep] at g
theorem sdp_sent (hd : H d = some (.dK (sdT p10 b11 s12 o13))) : DPut H d (.str "sent") v (upd H d (.dK (sdT p10 b11 v o13))) := by
  have g := DPut.k (k := .inr "sent") (v := v) hd (by show 4 < sizeLine; decide)
  have ep : putK (sdT p10 b11 s12 o13) (.inr "sent") v = sdT p10 b11 v o13 := by
    unfold putK
    rw [valV_any, valV_neg sdn_pieces_sent, valV_neg sdn_base_sent, valV_pos rfl]
    simp [sd_pieces_sent, sd_base_sent, sd_order_sent]
  rwa [ep] at g
theorem sdp_order (hd : H d = some (.dK (sdT p10 b11 s12 o13))) : DPut H d (.str "order") v (upd H d (.dK (sdT p10 b11 s12 v))) := by
  have g := DPut.k (k := .inr "order") (v := v) hd (by show 4 < sizeLine; decide)
  have ep : putK (sdT p10 b11 s12 o13) (.inr "order") v = sdT p10 b11 s12 v := by
    unfold putK
    rw [valV_any, valV_neg sdn_pieces_order, valV_neg sdn_base_order, valV_neg sdn_sent_order, valV_pos rfl]
    simp [sd_pieces_order, sd_base_order, sd_sent_order]
  rwa [ep] at g
theorem sdT_merge : mergeK [] (sdT p10 b11 s12 o13) = sdT p10 b11 s12 o13 := by
  unfold mergeK
  simp [putK, sd_pieces_base, sd_pieces_sent, sd_pieces_order, sd_base_pieces, sd_base_sent, sd_base_order, sd_sent_pieces, sd_sent_base, sd_sent_order, sd_order_pieces, sd_order_base, sd_order_sent]
end

structure SD where
  d : Addr
  lp : Addr
  lo : Addr
  ps : List QT
  base : Nat
  sent : Nat
  ord : List Nat
abbrev ordL (o : List Nat) : List L2.V := (o.map fun n => ((n : Nat) : Int)).map L2.V.int
abbrev sdD (D : SD) : List (Key × L2.V) := sdT (.ref D.lp) (.int (D.base : Int)) (.int (D.sent : Int)) (.ref D.lo)
abbrev sdTs (D : SD) : List Th := [tO D.d (.dK (sdD D)), tL D.lp (refsQ D.ps), tL D.lo (ordL D.ord)]
abbrev tSd (D : SD) : Th := tG (sdTs D)
def spSNew : Sp := fun vs H Q _ => vs = [] ∧ ∀ (H' : Hp) (d lp lo : Addr), Up (tG []) (sdTs ⟨d, lp, lo, [], 0, 0, []⟩) H H' → Q (.ref d) H'
def sdAns (D : SD) (a : Int) : SD := if (a - (D.base : Int)) % 8 ≤ (D.sent : Int) - D.base then { D with base := D.base + ((a - (D.base : Int)) % 8).toNat, ord := D.ord.filter fun f => decide (D.base + ((a - (D.base : Int)) % 8).toNat ≤ f) } else D
def spSAns : Sp := fun vs H Q _ => ∃ (D : SD) (a : Int), vs = [.ref D.d, .int a] ∧ (tSd D).P H ∧ D.ord.length ≤ 1000 ∧ ∀ (H' : Hp) (lo' : Addr), Up (tSd D) (sdTs { sdAns D a with lo := lo' }) H H' → Q .non H'
def sdMove (D : SD) : Option (SD × Nat) := if D.sent < D.ps.length ∧ D.sent < D.base + 4 then some ({ D with sent := D.sent + 1, ord := D.ord ++ [D.sent] }, D.sent) else match D.ord with
  | x :: r => some ({ D with ord := r ++ [x] }, x)
  | [] => none
/-- pieces that lie outside the places F -/
def QcOk (K : PySem.W.Frag) (F : List Addr) (ps : List QT) (H : Hp) : Prop := ∀ p ∈ ps, SqT K H p.t (qtV p) ∧ H p.ba = some (.lst (p.bits.map L2.V.int)) ∧ p.ba ∉ F ∧ p.bits.length ≤ 1000
def spSFrame (K : PySem.W.Frag) : Sp := fun vs H Q _ => ∃ (D : SD) (a : Int), vs = [.ref D.d, .int a] ∧ (tSd D).P H ∧ D.ord.length ≤ 1000 ∧ D.base ≤ D.sent ∧ D.sent ≤ D.ps.length ∧ (∀ x ∈ D.ord, x < D.ps.length) ∧ QcOk K (tSd D).ft D.ps H ∧
  (∀ D' x p, sdMove D = some (D', x) → D.ps[x]? = some p → ∀ (H' : Hp) (o lo' : Addr), Up (tSd D) (tL o ((headL ((x : Int) % 8) (a % 8) 1 p.last ++ p.bits).map L2.V.int) :: sdTs { D' with lo := lo' }) H H' → Q (.ref o) H') ∧
  (sdMove D = none → ∀ H', Same H H' → Q .non H')
/-- a row handed: the law's words, its menu, its heap of rows -/
theorem up_bag {b : Addr × Addr} {H H' : Hp} (h : Bag b H) (m : Mv b.1 H H') (g : Bag b H') : Up (tB b) [tB b] H H' := up_mv (T := tB b) (T' := tB b) h (mvf_bag m g) (fun a ha => ha) g (fun a ha => .inl ha)
theorem up_bagN {b : Addr × Addr} {N : Th} {H H' : Hp} (h : Bag b H) (m : Mv b.1 H H') (g : Bag b H') (hn : N.P H') (hf : ∀ a ∈ N.ft, H a = none) : Up (tB b) [N, tB b] H H' := up_mvN (T := tB b) (T' := tB b) (N := N) h (mvf_bag m g) (fun a ha => ha) g (fun a ha => .inl ha) hn (fun a ha => ⟨hf a ha, fun z => by
  have := hf a ha
  rcases List.mem_cons.mp z with z | z
  · exact (h.al.1) (z ▸ this)
  · exact (h.al.2) (in1 z ▸ this)⟩)
abbrev hdTs (b : Addr × Addr) (lm lw lh : Addr) (ms : List Int) (P : List WP) (hs : List L2.V) : List Th := [tB b, tL lm (ms.map L2.V.int), tL lw (refsW P), tL lh hs]
def spLHand (K : PySem.W.Frag) : Sp := fun vs H Q _ => ∃ (b : Addr × Addr) (lm lw lh : Addr) (ms : List Int) (P : List WP) (hs : List L2.V), vs = [.ref b.1, .ref lw, .ref lm, .ref lh] ∧ (tG (hdTs b lm lw lh ms P hs)).P H ∧ TF K (knW P) H ∧ W61 (wsOf P) ∧ Bytes ms ∧ 0 < ms.length ∧ ms.length ≤ 10 ∧ hs.length ≤ 1000 ∧
  ∀ (H' : Hp) (row : List Int) (rr o : Addr) (P' : List WP) (new : List QT), Bytes row → row.length ≤ 60 → wsOf P' = (bkShort (wsOf P) row).2 → TF K (knW P') H' → QcsOf (bkPack (wsOf P) row) (pcN (bkPack (wsOf P) row)) new → TF K (knQ new) H' →
    Up (tG (hdTs b lm lw lh ms P hs)) ((tL o (refsQ new) :: new.map fQ) ++ (tL rr (row.map L2.V.int) :: hdTs b lm lw lh ms P' (hs ++ [.ref rr]))) H H' → Q (.ref o) H'
/-! ### link and law's sender side by side -/
/-- what the link tells is what the sender's dict says -/
structure LkSd (S : LkS) (D : SD) : Prop where
  bs : D.base ≤ D.sent
  sn : D.sent ≤ D.ps.length
  perm : (S.sent.map fun p => p.place).Perm (List.range' D.base (D.sent - D.base))
  ord : S.sent.map (fun p => p.place) = D.ord
  que : S.queue.length = D.ps.length - D.sent
  few : S.sent.length ≤ 1000
  psl : D.ps.length ≤ 10000
theorem srt_eq {S : LkS} {D : SD} {ms : List Int} (h : LkSd S D) (m : SrtP S.sent ms) : ms = (List.range' D.base (D.sent - D.base)).map fun n => ((n : Nat) : Int) := by
  have p1 : ms.Perm ((List.range' D.base (D.sent - D.base)).map fun n => ((n : Nat) : Int)) := by
    have e : S.sent.map (fun p => (p.place : Int)) = (S.sent.map fun p => p.place).map fun n => ((n : Nat) : Int) := by rw [List.map_map]; rfl
    have := m.perm
    rw [e] at this
    exact this.trans (h.perm.map _)
  refine List.Perm.eq_of_pairwise (le := fun a b : Int => a ≤ b) (fun a b _ _ h1 h2 => Int.le_antisymm h1 h2) m.up ?_ p1
  rw [List.pairwise_map]
  exact (List.pairwise_lt_range' (s := D.base) (n := D.sent - D.base)).imp (fun {a b} (h : a < b) => by omega)
theorem dn_intsR (ns : List Int) (h : ns.length ≤ 100000) (n : Nat) : Dn (n + 2) (dI ns) := .inr (.inr (.inr (.inr ⟨_, .inl rfl, by rw [List.length_map]; exact h, fun e he => by
  obtain ⟨z, _, rfl⟩ := List.mem_map.mp he
  exact .inr (.inl ⟨z, rfl⟩)⟩)))
/-- a number and a list of numbers, in a list -/
def dIL (c : Int) (ns : List Int) : PyData := .list [.int c, dI ns]
theorem dp_IL {K : PySem.W.Frag} {H : Hp} {p q : Addr} {c : Int} {ns : List Int} (h : H p = some (.lst [.int c, .ref q])) (e : H q = some (.lst (ns.map L2.V.int))) : Dp K H (.ref p) (dIL c ns) := .lst (SqL.of h) (.cons (.int c) (.cons (dp_ints (SqL.of e)) .nil))
theorem dn_IL (c : Int) (ns : List Int) (h : ns.length ≤ 100000) (n : Nat) : Dn (n + 3) (dIL c ns) := .inr (.inr (.inr (.inr ⟨_, .inl rfl, (by show 2 ≤ 100000; decide), fun e he => by
  rcases List.mem_cons.mp he with rfl | he
  · exact .inr (.inl ⟨c, rfl⟩)
  · rw [List.mem_singleton.mp he]
    exact dn_intsR ns h n⟩)))
theorem shaped_IL (c : Int) (ns : List Int) : SeqAt.shaped (dIL c ns) = true := by
  unfold SeqAt.shaped
  rw [Bool.and_eq_true]
  refine ⟨?_, decide_eq_true ?_⟩
  · show (true && (PyData.canLayAll0 (ns.map PyData.int) && true)) = true
    rw [canLay_ints]
    rfl
  · show max 0 (max (PyData.depthAll (ns.map PyData.int) + 1) 0) + 1 ≤ 64
    rw [depth_ints]
    decide
theorem pcB_le (bs : List Int) (j : Nat) : (pcB bs j).length ≤ 40 := by
  unfold pcB
  rw [List.length_take]
  omega
theorem headL_len (n a c l : Int) : (headL n a c l).length = 8 := by
  unfold headL
  rw [List.length_append, List.length_append, wr_len, wr_len]
  rfl
theorem pack_le {ws : Wds} {row : List Int} (h : row.length ≤ 60) : (bkPack ws row).length ≤ 500 := by
  have := bkPack_len ws row
  omega
/-! ### rows that come in: the pieces of rows handed one behind another -/
def wsN (rws : List (List Int)) : Wds := rws.foldl (fun ws r => (bkShort ws r).2) []
def rowAt (rws : List (List Int)) (j : Nat) : List Int := rws.getD j []
def bitsN (rws : List (List Int)) (j : Nat) : List Int := bkPack (wsN (rws.take j)) (rowAt rws j)
def endN (rws : List (List Int)) : Nat → Nat
  | 0 => 0
  | j + 1 => endN rws j + pcN (bitsN rws j)
theorem wsN_snoc (rws : List (List Int)) (r : List Int) : wsN (rws ++ [r]) = (bkShort (wsN rws) r).2 := by
  unfold wsN
  rw [List.foldl_append]
  rfl
theorem wsN_succ {rws : List (List Int)} {j : Nat} (h : j < rws.length) : wsN (rws.take (j + 1)) = (bkShort (wsN (rws.take j)) (rowAt rws j)).2 := by
  rw [List.take_succ, List.getElem?_eq_getElem h]
  show wsN (rws.take j ++ [rws[j]]) = _
  rw [wsN_snoc]
  unfold rowAt
  rw [List.getD_eq_getElem?_getD, List.getElem?_eq_getElem h]
  rfl
theorem bitsN_old {rws : List (List Int)} {r : List Int} {j : Nat} (h : j < rws.length) : bitsN (rws ++ [r]) j = bitsN rws j := by
  unfold bitsN rowAt
  rw [List.take_append_of_le_length (by omega), List.getD_eq_getElem?_getD, List.getD_eq_getElem?_getD, List.getElem?_append_left h]
theorem bitsN_new {rws : List (List Int)} {r : List Int} : bitsN (rws ++ [r]) rws.length = bkPack (wsN rws) r := by
  unfold bitsN rowAt
  rw [List.take_append_of_le_length (Nat.le_refl _), List.take_length, List.getD_eq_getElem?_getD, List.getElem?_append_right (Nat.le_refl _), Nat.sub_self]
  rfl
theorem endN_old {rws : List (List Int)} {r : List Int} : ∀ {j : Nat}, j ≤ rws.length → endN (rws ++ [r]) j = endN rws j
  | 0, _ => rfl
  | j + 1, h => by
    show endN (rws ++ [r]) j + pcN (bitsN (rws ++ [r]) j) = endN rws j + pcN (bitsN rws j)
    rw [endN_old (by omega), bitsN_old (by omega)]
theorem bkPack_pos (ws : Wds) (row : List Int) : 1 ≤ (bkPack ws row).length := by
  unfold bkPack
  split <;> exact Nat.le_add_left 1 _
theorem pcN_pos (ws : Wds) (row : List Int) : 1 ≤ pcN (bkPack ws row) := by
  have := bkPack_pos ws row
  unfold pcN
  omega
theorem bitsN_pos (rws : List (List Int)) (j : Nat) : 1 ≤ pcN (bitsN rws j) := pcN_pos _ _
theorem endN_lt (rws : List (List Int)) (j : Nat) : endN rws j < endN rws (j + 1) := by
  have := bitsN_pos rws j
  show endN rws j < endN rws j + pcN (bitsN rws j)
  omega
theorem endN_mono (rws : List (List Int)) {i j : Nat} (h : i ≤ j) : endN rws i ≤ endN rws j := by
  induction h with
  | refl => exact Nat.le_refl _
  | step _ ih => exact Nat.le_trans ih (Nat.le_of_lt (endN_lt rws _))
structure QsOk (rws : List (List Int)) (qs : List QT) : Prop where
  len : qs.length = endN rws rws.length
  all : ∀ (j i : Nat) (q : QT), j < rws.length → i < pcN (bitsN rws j) → qs[endN rws j + i]? = some q → q.last = pcL (bitsN rws j) i ∧ q.bits = pcB (bitsN rws j) i
theorem QsOk.nil : QsOk [] [] := ⟨rfl, fun j i q h => absurd h (Nat.not_lt_zero _)⟩
theorem QsOk.more {rws : List (List Int)} {r : List Int} {qs new : List QT} (h : QsOk rws qs) (n : QcsOf (bkPack (wsN rws) r) (pcN (bkPack (wsN rws) r)) new) : QsOk (rws ++ [r]) (qs ++ new) := by
  have e1 : endN (rws ++ [r]) rws.length = qs.length := by rw [endN_old (Nat.le_refl _), h.len]
  refine ⟨?_, fun j i q hj hi hq => ?_⟩
  · rw [List.length_append, List.length_append]
    show _ = endN (rws ++ [r]) rws.length + pcN (bitsN (rws ++ [r]) rws.length)
    rw [e1, bitsN_new, n.len]
  · rw [List.length_append] at hj
    have hj : j < rws.length + 1 := hj
    by_cases z : j < rws.length
    · rw [bitsN_old z] at hi ⊢
      rw [endN_old (by omega)] at hq
      have : endN rws j + i < qs.length := by
        rw [h.len]
        have := endN_mono rws (show j + 1 ≤ rws.length by omega)
        have e2 : endN rws (j + 1) = endN rws j + pcN (bitsN rws j) := rfl
        omega
      rw [List.getElem?_append_left this] at hq
      exact h.all j i q z hi hq
    · obtain rfl : j = rws.length := by omega
      rw [bitsN_new] at hi ⊢
      rw [e1, List.getElem?_append_right (by omega), show qs.length + i - qs.length = i by omega] at hq
      exact n.all i q hq
/-- where the taking side stands -/
structure PosR (rws : List (List Int)) (p j : Nat) (ws : Wds) (bg : List Int) : Prop where
  jl : j ≤ rws.length
  lo : endN rws j ≤ p
  hi : j < rws.length → p < endN rws (j + 1)
  eq : j = rws.length → p = endN rws j
  ws : ws = wsN (rws.take j)
  bg : bg = (bitsN rws j).take (40 * (p - endN rws j))
theorem PosR.start (rws : List (List Int)) : PosR rws 0 0 [] [] := ⟨Nat.zero_le _, Nat.le_refl _, fun _ => (endN_lt rws 0), fun _ => rfl, rfl, by
  show [] = List.take 0 _
  rfl⟩
theorem pcL_last {bs : List Int} {i : Nat} (hi : i < pcN bs) : pcL bs i = if i + 1 = pcN bs then 1 else 0 := by
  unfold pcN at hi ⊢
  unfold pcL
  by_cases z : bs.length ≤ 40 * i + 40
  · rw [if_pos z, if_pos (by omega)]
  · rw [if_neg z, if_neg (by omega)]
theorem take_pc (bs : List Int) (i : Nat) : bs.take (40 * i) ++ pcB bs i = bs.take (40 * (i + 1)) := by
  unfold pcB
  rw [show 40 * (i + 1) = 40 * i + 40 by omega, List.take_add]
theorem PosR.step {rws : List (List Int)} {qs : List QT} {p j : Nat} {ws : Wds} {bg : List Int} {q : QT} (h : PosR rws p j ws bg) (hq : QsOk rws qs) (hby : ∀ r ∈ rws, Bytes r ∧ r.length ≤ 60) (e : qs[p]? = some q) :
    (q.last = 1 ∧ bkUnpack ws (bg ++ q.bits) = .ok (rowAt rws j) (wsN (rws.take (j + 1))) ∧ j < rws.length ∧ PosR rws (p + 1) (j + 1) (wsN (rws.take (j + 1))) []) ∨ (¬ q.last = 1 ∧ PosR rws (p + 1) j ws (bg ++ q.bits)) := by
  have hp : p < qs.length := (List.getElem?_eq_some_iff.mp e).1
  have hj : j < rws.length := by
    rcases Nat.lt_or_ge j rws.length with z | z
    · exact z
    · have ej : j = rws.length := Nat.le_antisymm h.jl z
      have := h.eq ej
      rw [hq.len, ← ej] at hp
      omega
  have hlo := h.lo
  have hhi := h.hi hj
  have e1 : endN rws (j + 1) = endN rws j + pcN (bitsN rws j) := rfl
  obtain ⟨i, hi⟩ : ∃ i, p = endN rws j + i := ⟨p - endN rws j, by omega⟩
  subst hi
  have hin : i < pcN (bitsN rws j) := by omega
  obtain ⟨a1, a2⟩ := hq.all j i q hj hin e
  have eb : bg ++ q.bits = (bitsN rws j).take (40 * (i + 1)) := by
    rw [h.bg, a2, show endN rws j + i - endN rws j = i by omega, take_pc]
  rw [pcL_last hin] at a1
  rw [eb]
  by_cases z : i + 1 = pcN (bitsN rws j)
  · left
    rw [if_pos z] at a1
    have hrow : Bytes (rowAt rws j) ∧ (rowAt rws j).length ≤ 60 := by
      refine hby _ ?_
      unfold rowAt
      rw [List.getD_eq_getElem?_getD, List.getElem?_eq_getElem hj]
      exact List.getElem_mem hj
    have et : (bitsN rws j).take (40 * (i + 1)) = bitsN rws j := List.take_of_length_le (by unfold pcN at z; omega)
    refine ⟨a1, ?_, hj, ⟨by omega, by omega, fun h2 => ?_, fun h2 => by omega, rfl, ?_⟩⟩
    · rw [et, h.ws, wsN_succ hj]
      exact bkUnpack_pack hrow.1 hrow.2
    · have := endN_lt rws (j + 1)
      omega
    · rw [show endN rws j + i + 1 - endN rws (j + 1) = 0 by omega]
      rfl
  · right
    rw [if_neg z] at a1
    refine ⟨by rw [a1]; decide, ⟨h.jl, by omega, fun _ => by omega, fun h2 => by omega, h.ws, ?_⟩⟩
    rw [show endN rws j + i + 1 - endN rws j = i + 1 by omega]
theorem inGo_ok {rws : List (List Int)} {qs : List QT} (hq : QsOk rws qs) (hby : ∀ r ∈ rws, Bytes r ∧ r.length ≤ 60) : ∀ (fuel p j : Nat) (ws : Wds) (bg : List Int) (ks : List KT) (rows : List (List Int)), ks.length < fuel → PosR rws p j ws bg → (∀ x ∈ ks, ∃ q : QT, qs[x.key]? = some q ∧ q.last = x.last ∧ q.bits = x.bits) →
    ∃ (p' j' : Nat) (ws' : Wds) (bg' : List Int), inGo fuel ws p ks bg rows = .ok ws' p' (ks.filter fun x => decide (x.key < p ∨ p' ≤ x.key)) bg' (rows ++ (List.range' j (j' - j)).map (rowAt rws)) ∧ j ≤ j' ∧ p ≤ p' ∧ PosR rws p' j' ws' bg' ∧ (∀ k, p ≤ k → k < p' → kGet ks k ≠ none) ∧ kGet ks p' = none := by
  intro fuel
  induction fuel with
  | zero => intro p j ws bg ks rows h; omega
  | succ n ih =>
    intro p j ws bg ks rows hl hpos hks
    cases hg : kGet ks p with
    | none =>
      refine ⟨p, j, ws, bg, ?_, Nat.le_refl _, Nat.le_refl _, hpos, fun k h1 h2 => by omega, hg⟩
      unfold inGo
      rw [hg, Nat.sub_self]
      show InO.ok _ _ _ _ _ = .ok _ _ _ _ _
      congr 1
      · refine (List.filter_eq_self.mpr fun x _ => decide_eq_true (by omega)).symm
      · simp
    | some x =>
      obtain ⟨hxm, hxk⟩ := kGet_some hg
      obtain ⟨q, e1, e2, e3⟩ := hks x hxm
      rw [hxk] at e1
      have hdl := kDrop_len hg
      have ef : ∀ p', p + 1 ≤ p' → (kDrop ks p).filter (fun x => decide (x.key < p + 1 ∨ p' ≤ x.key)) = ks.filter fun x => decide (x.key < p ∨ p' ≤ x.key) := fun p' hp' => by
        unfold kDrop
        rw [List.filter_filter]
        refine List.filter_congr fun x _ => ?_
        rw [← Bool.decide_and]
        congr 1
        exact propext ⟨fun h => by omega, fun h => by omega⟩
      have eg : ∀ k, k ≠ p → kGet (kDrop ks p) k = kGet ks k := fun k hk => by
        unfold kGet kDrop
        rw [List.find?_filter]
        congr 1
        funext x
        by_cases z : x.key = k
        · simp [z, hk]
        · simp [z]
      have hks' : ∀ x ∈ kDrop ks p, ∃ q : QT, qs[x.key]? = some q ∧ q.last = x.last ∧ q.bits = x.bits := fun x hx => hks x (kDrop_sub x hx)
      rcases hpos.step hq hby e1 with ⟨b1, b2, b3, b4⟩ | ⟨b1, b2⟩
      · obtain ⟨p', j', ws', bg', c1, c2, c3, c4, c5, c6⟩ := ih (p + 1) (j + 1) _ [] (kDrop ks p) (rows ++ [rowAt rws j]) (by omega) b4 hks'
        refine ⟨p', j', ws', bg', ?_, by omega, by omega, c4, fun k h1 h2 => ?_, ?_⟩
        · unfold inGo
          rw [hg]
          show (if x.last = 1 then _ else _) = _
          rw [e2] at b1
          rw [e3] at b2
          rw [if_pos b1, b2]
          show inGo n _ (p + 1) (kDrop ks p) [] (rows ++ [rowAt rws j]) = _
          rw [c1, ef p' c3, show j' - j = (j' - (j + 1)) + 1 by omega, List.range'_succ, List.map_cons, List.append_assoc]
          rfl
        · by_cases z : k = p
          · rw [z, hg]
            exact fun y => nomatch y
          · rw [← eg k z]
            exact c5 k (by omega) h2
        · rw [← eg p' (by omega)]
          exact c6
      · obtain ⟨p', j', ws', bg', c1, c2, c3, c4, c5, c6⟩ := ih (p + 1) j ws (bg ++ q.bits) (kDrop ks p) rows (by omega) b2 hks'
        refine ⟨p', j', ws', bg', ?_, c2, by omega, c4, fun k h1 h2 => ?_, ?_⟩
        · unfold inGo
          rw [hg]
          show (if x.last = 1 then _ else _) = _
          rw [e2] at b1
          rw [e3] at c1
          rw [if_neg b1, c1, ef p' c3]
        · by_cases z : k = p
          · rw [z, hg]
            exact fun y => nomatch y
          · rw [← eg k z]
            exact c5 k (by omega) h2
        · rw [← eg p' (by omega)]
          exact c6
/-! ### the taking side and what the law knows of it -/
structure W43 (rws : List (List Int)) (qs : List QT) (iws : Wds) (place : Nat) (kept : List KT) (begun : List Int) (th : List Nat) : Prop where
  qok : QsOk rws qs
  byt : ∀ r ∈ rws, Bytes r ∧ r.length ≤ 60
  pos : ∃ j, PosR rws place j iws begun
  kq : ∀ x ∈ kept, ∃ q : QT, qs[x.key]? = some q ∧ q.last = x.last ∧ q.bits = x.bits
  kr : ∀ x ∈ kept, place ≤ x.key ∧ x.key < place + 4
  nd : (kept.map fun x => x.key).Nodup
  tk : ∀ k, place ≤ k → (k ∈ th ↔ kGet kept k ≠ none)
  no : kGet kept place = none
theorem nodup_le : ∀ (n p : Nat) (ks : List Nat), ks.Nodup → (∀ k ∈ ks, p ≤ k ∧ k < p + n) → ks.length ≤ n
  | 0, p, ks, _, h => by
    cases ks with
    | nil => exact Nat.le_refl _
    | cons k r =>
      have := h k (.head _)
      omega
  | n + 1, p, ks, hn, h => by
    have ih := nodup_le n (p + 1) (ks.erase p) (hn.erase p) (fun k hk => by
      have h1 := (hn.mem_erase_iff).mp hk
      have h2 := h k h1.2
      have := h1.1
      omega)
    have hl : ks.length ≤ (ks.erase p).length + 1 := by
      rw [List.length_erase]
      split <;> omega
    omega
theorem W43.klen {rws : List (List Int)} {qs : List QT} {iws : Wds} {place : Nat} {kept : List KT} {begun : List Int} {th : List Nat} (h : W43 rws qs iws place kept begun th) : kept.length ≤ 4 := by
  have := nodup_le 4 place (kept.map fun x => x.key) h.nd (fun k hk => by
    obtain ⟨x, hx, rfl⟩ := List.mem_map.mp hk
    exact h.kr x hx)
  rwa [List.length_map] at this
theorem bitsN_len {rws : List (List Int)} (hb : ∀ r ∈ rws, Bytes r ∧ r.length ≤ 60) (j : Nat) : (bitsN rws j).length ≤ 500 := by
  have h1 := bkPack_len (wsN (rws.take j)) (rowAt rws j)
  have h2 : (rowAt rws j).length ≤ 60 := by
    unfold rowAt
    rw [List.getD_eq_getElem?_getD]
    cases e : rws[j]? with
    | none => exact Nat.zero_le _
    | some r => exact (hb r (List.mem_of_getElem? e)).2
  unfold bitsN
  omega
theorem W43.bg {rws : List (List Int)} {qs : List QT} {iws : Wds} {place : Nat} {kept : List KT} {begun : List Int} {th : List Nat} (h : W43 rws qs iws place kept begun th) : Bits begun ∧ begun.length ≤ 500 := by
  obtain ⟨j, hp⟩ := h.pos
  rw [hp.bg]
  refine ⟨bits_take (bkPack_bits _ _) _, ?_⟩
  rw [List.length_take]
  have := bitsN_len h.byt j
  omega
theorem kGet_app (ks : List KT) (x : KT) (k : Nat) : kGet (ks ++ [x]) k ≠ none ↔ (kGet ks k ≠ none ∨ x.key = k) := by
  unfold kGet
  rw [List.find?_append]
  cases e : ks.find? (fun x => decide (x.key = k)) with
  | some y => simp
  | none =>
    by_cases z : x.key = k
    · simp [z]
    · simp [z]
theorem kGet_none {ks : List KT} {k : Nat} (h : kGet ks k = none) : ∀ x ∈ ks, x.key ≠ k := fun x hx z => by
  have := List.find?_eq_none.mp h x hx
  exact this (decide_eq_true z)
theorem kGet_fil {ks : List KT} {p p' k : Nat} (h : p' ≤ k) : kGet (ks.filter fun x => decide (x.key < p ∨ p' ≤ x.key)) k = kGet ks k := by
  unfold kGet
  rw [List.find?_filter]
  congr 1
  funext x
  by_cases z : x.key = k
  · simp [z, h]
  · simp [z]
def Fx43 (qs : List QT) (place : Nat) (th1 : List Nat) (n : Nat) (ks1 : List KT) : Prop := (∀ x ∈ ks1, ∃ q : QT, qs[x.key]? = some q ∧ q.last = x.last ∧ q.bits = x.bits) ∧ (∀ x ∈ ks1, place ≤ x.key ∧ x.key < place + 4) ∧ (ks1.map fun x => x.key).Nodup ∧ (∀ k, place ≤ k → (k ∈ th1 ↔ kGet ks1 k ≠ none)) ∧ ks1.length ≤ n + 1
theorem W43.take {rws : List (List Int)} {qs : List QT} {iws : Wds} {place : Nat} {kept : List KT} {begun : List Int} {th th1 : List Nat} {at_ : Nat} {q : QT} {sg : List Int} (h : W43 rws qs iws place kept begun th) (hat : qs[at_]? = some q) (hd : at_ < place + 4) (hd2 : place ≤ at_ + 4) (hs : place ≤ at_ → ¬ at_ ∈ th → sg = q.bits) (hth : ∀ k, k ∈ th1 ↔ (k ∈ th ∨ (place ≤ at_ ∧ k = at_))) (t pa : Addr) :
    ∃ (p' j j' : Nat) (ws' : Wds) (bg' : List Int), inGo (kept.length + 2) iws place (inPut kept place ((at_ : Int) % 8) q.last t pa sg) begun [] = .ok ws' p' ((inPut kept place ((at_ : Int) % 8) q.last t pa sg).filter fun x => decide (x.key < place ∨ p' ≤ x.key)) bg' ((List.range' j (j' - j)).map (rowAt rws)) ∧
      W43 rws qs ws' p' ((inPut kept place ((at_ : Int) % 8) q.last t pa sg).filter fun x => decide (x.key < place ∨ p' ≤ x.key)) bg' th1 ∧ place ≤ p' ∧ (∀ k, place ≤ k → k < p' → k ∈ th1) ∧ ¬ p' ∈ th1 ∧ j ≤ j' ∧ j' ≤ rws.length ∧ ∀ i, i < rws.length → ((place < endN rws (i + 1) ∧ endN rws (i + 1) ≤ p') ↔ (j ≤ i ∧ i < j')) := by
  obtain ⟨ks1, ek⟩ : ∃ ks1, ks1 = inPut kept place ((at_ : Int) % 8) q.last t pa sg := ⟨_, rfl⟩
  have facts : Fx43 qs place th1 kept.length ks1 := by
    have same : ks1 = kept → (place ≤ at_ → at_ ∈ th) → Fx43 qs place th1 kept.length ks1 := fun e hin => by
      rw [e]
      refine ⟨h.kq, h.kr, h.nd, fun k hk => ?_, Nat.le_succ _⟩
      rw [hth, ← h.tk k hk]
      refine ⟨fun z => z.elim id fun z => ?_, .inl⟩
      rw [z.2]
      exact hin z.1
    by_cases z : place ≤ at_
    · have ea : ((((at_ : Int) % 8) - (place : Int)) % 8).toNat = at_ - place := by omega
      have ep : place + (at_ - place) = at_ := by omega
      cases hg : kGet kept at_ with
      | some y =>
        refine same ?_ fun _ => (h.tk at_ z).mpr (by rw [hg]; exact fun z => nomatch z)
        rw [ek]
        unfold inPut
        rw [ea, ep, if_neg]
        rw [hg]
        exact fun z => nomatch z.2
      | none =>
        have nin : ¬ at_ ∈ th := fun y => (h.tk at_ z).mp y hg
        have es := hs z nin
        have ek1 : ks1 = kept ++ [⟨at_, t, q.last, pa, sg⟩] := by
          rw [ek]
          unfold inPut
          rw [ea, ep, if_pos ⟨by omega, hg⟩]
        rw [ek1]
        refine ⟨fun x hx => ?_, fun x hx => ?_, ?_, fun k hk => ?_, ?_⟩
        · rcases List.mem_append.mp hx with y | y
          · exact h.kq x y
          · rw [List.mem_singleton.mp y]
            exact ⟨q, hat, rfl, es.symm⟩
        · rcases List.mem_append.mp hx with y | y
          · exact h.kr x y
          · rw [List.mem_singleton.mp y]
            exact ⟨z, hd⟩
        · rw [List.map_append]
          refine List.nodup_append.mpr ⟨h.nd, by simp, fun a ha b hb => ?_⟩
          obtain ⟨x, hx, rfl⟩ := List.mem_map.mp ha
          have hb : b = at_ := by simpa using hb
          rw [hb]
          exact kGet_none hg x hx
        · rw [hth, kGet_app, ← h.tk k hk]
          refine ⟨fun y => y.imp id fun y => y.2.symm, fun y => y.imp id fun y => ⟨z, y.symm⟩⟩
        · rw [List.length_append]
          exact Nat.le_refl _
    · refine same ?_ fun y => absurd y z
      rw [ek]
      unfold inPut
      rw [if_neg]
      intro y
      have := y.1
      omega
  rw [← ek]
  clear ek
  obtain ⟨f1, f2, f3, f4, f5⟩ := facts
  obtain ⟨j, hp⟩ := h.pos
  obtain ⟨p', j', ws', bg', c1, c2, c3, c4, c5, c6⟩ := inGo_ok h.qok h.byt (kept.length + 2) place j iws begun ks1 [] (by omega) hp f1
  have sub : ∀ x ∈ ks1.filter (fun x => decide (x.key < place ∨ p' ≤ x.key)), x ∈ ks1 ∧ p' ≤ x.key := fun x hx => by
    obtain ⟨a, b⟩ := List.mem_filter.mp hx
    have b := of_decide_eq_true b
    have := (f2 x a).1
    exact ⟨a, by omega⟩
  refine ⟨p', j, j', ws', bg', c1, ⟨h.qok, h.byt, ⟨j', c4⟩, fun x hx => f1 x (sub x hx).1, fun x hx => ?_, ?_, fun k hk => ?_, ?_⟩, c3, fun k h1 h2 => (f4 k h1).mpr (c5 k h1 h2), fun y => (f4 p' c3).mp y c6, c2, c4.jl, fun i hi => ?_⟩
  · obtain ⟨a, b⟩ := sub x hx
    have := (f2 x a).2
    exact ⟨b, by omega⟩
  · exact List.Sublist.nodup (List.Sublist.map _ List.filter_sublist) f3
  · rw [f4 k (by omega), kGet_fil hk]
  · rw [kGet_fil (Nat.le_refl _)]
    exact c6
  · have l1 := hp.lo
    have l2 := c4.lo
    constructor
    · rintro ⟨y1, y2⟩
      constructor
      · rcases Nat.lt_or_ge i j with z | z
        · have := endN_mono rws (show i + 1 ≤ j by omega)
          omega
        · exact z
      · rcases Nat.lt_or_ge i j' with z | z
        · exact z
        · have h1 : j' < rws.length := by omega
          have := c4.hi h1
          have := endN_mono rws (show j' + 1 ≤ i + 1 by omega)
          omega
    · rintro ⟨y1, y2⟩
      constructor
      · have h1 : j < rws.length := by omega
        have := hp.hi h1
        have := endN_mono rws (show j + 1 ≤ i + 1 by omega)
        omega
      · have := endN_mono rws (show i + 1 ≤ j' by omega)
        omega
/-! ### a list of rows as data -/
def dLL (ls : List (List Int)) : PyData := .list (ls.map dI)
theorem canLay_LL : ∀ ls : List (List Int), PyData.canLayAll0 (ls.map dI) = true
  | [] => rfl
  | u :: ls => by
    show (PyData.canLayAll0 (u.map PyData.int) && PyData.canLayAll0 (ls.map dI)) = true
    rw [canLay_ints, canLay_LL ls]
    rfl
theorem depth_LL : ∀ ls : List (List Int), PyData.depthAll (ls.map dI) ≤ 1
  | [] => Nat.zero_le _
  | u :: ls => by
    show max (PyData.depthAll (u.map PyData.int) + 1) (PyData.depthAll (ls.map dI)) ≤ 1
    rw [depth_ints]
    exact Nat.max_le.mpr ⟨Nat.le_refl _, depth_LL ls⟩
theorem shaped_LL (ls : List (List Int)) : SeqAt.shaped (dLL ls) = true := by
  unfold SeqAt.shaped
  rw [Bool.and_eq_true]
  refine ⟨canLay_LL ls, decide_eq_true ?_⟩
  show PyData.depthAll (ls.map dI) + 1 ≤ 64
  have := depth_LL ls
  omega
theorem dn_LL {ls : List (List Int)} (h : ls.length ≤ 1000) (h2 : ∀ u ∈ ls, u.length ≤ 1000) (n : Nat) : Dn (n + 3) (dLL ls) := .inr (.inr (.inr (.inr ⟨_, .inl rfl, by rw [List.length_map]; omega, fun e he => by
  obtain ⟨u, hu, rfl⟩ := List.mem_map.mp he
  exact dn_intsR u (by have := h2 u hu; omega) n⟩)))
theorem dpa_rs {K : PySem.W.Frag} {H : Hp} : ∀ {rs : List (Addr × List Int)}, (∀ r ∈ rs, H r.1 = some (.lst (r.2.map L2.V.int))) → DpAll K H (refsR rs) ((rs.map fun r => r.2).map dI)
  | [], _ => .nil
  | r :: rs, h => .cons (dp_ints (SqL.of (h r (.head _)))) (dpa_rs fun q hq => h q (.tail _ hq))
theorem dp_rs {K : PySem.W.Frag} {H : Hp} {o : Addr} {rs : List (Addr × List Int)} (ho : H o = some (.lst (refsR rs))) (h : ∀ r ∈ rs, H r.1 = some (.lst (r.2.map L2.V.int))) : Dp K H (.ref o) (dLL (rs.map fun r => r.2)) := .lst (SqL.of ho) (dpa_rs h)
theorem rs_at {K : PySem.W.Frag} {L : List (Addr × List L2.V)} {T0 : List (Addr × Str)} {Ts : List Th} {H : Hp} {rs : List (Addr × List Int)} {i : Nat} (h : Hw K L T0 Ts H) (hi : Ts[i]? = some (tG (rs.map fR))) : ∀ r ∈ rs, H r.1 = some (.lst (r.2.map L2.V.int)) := fun r hr => by
  obtain ⟨k, hk⟩ := List.getElem?_of_mem hr
  have g : (fR r).P H := h.gget i hi hk
  exact g.1
/-! ### a link that takes the law's pieces -/
theorem piece_head {n a l : Int} {sg : List Int} (hn : 0 ≤ n ∧ n < 8) (ha : 0 ≤ a ∧ a < 8) (hl : l = 0 ∨ l = 1) (hb : Bits sg) : Bits (headL n a 1 l ++ sg) ∧ 8 ≤ (headL n a 1 l ++ sg).length ∧ (headL n a 1 l ++ sg).drop 8 = sg ∧ pNum (headL n a 1 l ++ sg) = n ∧ pAns (headL n a 1 l ++ sg) = a ∧ pCom (headL n a 1 l ++ sg) = 1 ∧ pLast (headL n a 1 l ++ sg) = l ∧ (1 ≤ sg.length → sg.length ≤ 40 → pForm (headL n a 1 l ++ sg) = true) := by
  have e : headL n a 1 l ++ sg = wr 3 n ++ (wr 3 a ++ (1 :: l :: sg)) := by
    unfold headL
    rw [List.append_assoc, List.append_assoc]
    rfl
  have l3 : ∀ z, (wr 3 z).length = 3 := fun z => wr_len 3 z
  have e1 : pNum (headL n a 1 l ++ sg) = n := by
    unfold pNum
    rw [e, List.take_append_of_le_length (by rw [l3]; exact Nat.le_refl _), List.take_of_length_le (by rw [l3]; exact Nat.le_refl _)]
    exact bn_wr hn.1 (by have := hn.2; show n < 2 ^ 3; omega)
  have d3 : (headL n a 1 l ++ sg).drop 3 = wr 3 a ++ (1 :: l :: sg) := by
    rw [e, List.drop_append_of_le_length (by rw [l3]; exact Nat.le_refl _), List.drop_of_length_le (by rw [l3]; exact Nat.le_refl _)]
    rfl
  have e2 : pAns (headL n a 1 l ++ sg) = a := by
    unfold pAns
    rw [d3, List.take_append_of_le_length (by rw [l3]; exact Nat.le_refl _), List.take_of_length_le (by rw [l3]; exact Nat.le_refl _)]
    exact bn_wr ha.1 (by have := ha.2; show a < 2 ^ 3; omega)
  have d6 : (headL n a 1 l ++ sg).drop 6 = 1 :: l :: sg := by
    rw [show (6 : Nat) = 3 + 3 from rfl, ← List.drop_drop, d3, List.drop_append_of_le_length (by rw [l3]; exact Nat.le_refl _), List.drop_of_length_le (by rw [l3]; exact Nat.le_refl _)]
    rfl
  have d8 : (headL n a 1 l ++ sg).drop 8 = sg := by
    rw [show (8 : Nat) = 6 + 2 from rfl, ← List.drop_drop, d6]
    rfl
  have g6 : ∀ i, (headL n a 1 l ++ sg).getD (6 + i) 0 = (1 :: l :: sg).getD i 0 := fun i => by
    rw [List.getD_eq_getElem?_getD, List.getD_eq_getElem?_getD, ← d6, List.getElem?_drop]
  have e3 : pCom (headL n a 1 l ++ sg) = 1 := g6 0
  have e4 : pLast (headL n a 1 l ++ sg) = l := g6 1
  refine ⟨bits_app (bits_app (bits_app (wr_bits 3 _) (wr_bits 3 _)) (fun x hx => ?_)) hb, by rw [List.length_append, headL_len]; omega, d8, e1, e2, e3, e4, fun h1 h40 => ?_⟩
  · rcases List.mem_cons.mp hx with rfl | hx
    · exact .inr rfl
    · rw [List.mem_singleton.mp hx]
      exact hl
  · unfold pForm formB
    rw [e3, d8, if_pos rfl]
    exact decide_eq_true ⟨h1, h40⟩
theorem qs_at {rws : List (List Int)} {qs : List QT} (h : QsOk rws qs) : ∀ q ∈ qs, ∃ (bs : List Int) (i : Nat), Bits bs ∧ i < pcN bs ∧ q.last = pcL bs i ∧ q.bits = pcB bs i := fun q hq => by
  obtain ⟨p, hp⟩ := List.getElem?_of_mem hq
  have hlt : p < qs.length := (List.getElem?_eq_some_iff.mp hp).1
  rw [h.len] at hlt
  have key : ∀ n, n ≤ rws.length → p < endN rws n → ∃ j i, j < n ∧ i < pcN (bitsN rws j) ∧ p = endN rws j + i := by
    intro n
    induction n with
    | zero => intro _ z; exact absurd z (Nat.not_lt_zero _)
    | succ n ih =>
      intro hn hp
      rcases Nat.lt_or_ge p (endN rws n) with z | z
      · obtain ⟨j, i, a, b, c⟩ := ih (by omega) z
        exact ⟨j, i, by omega, b, c⟩
      · have e : endN rws (n + 1) = endN rws n + pcN (bitsN rws n) := rfl
        exact ⟨n, p - endN rws n, by omega, by omega, by omega⟩
  obtain ⟨j, i, hj, hi, e⟩ := key rws.length (Nat.le_refl _) hlt
  rw [e] at hp
  obtain ⟨a, b⟩ := h.all j i q (by omega) hi hp
  exact ⟨bitsN rws j, i, bkPack_bits _ _, hi, a, b⟩
theorem qs_ok {rws : List (List Int)} {qs : List QT} (h : QsOk rws qs) : ∀ q ∈ qs, Bits q.bits ∧ 1 ≤ q.bits.length ∧ q.bits.length ≤ 40 ∧ (q.last = 0 ∨ q.last = 1) := fun q hq => by
  obtain ⟨bs, i, h1, h2, h3, h4⟩ := qs_at h q hq
  rw [h4, h3]
  unfold pcN at h2
  refine ⟨?_, ?_, pcB_le bs i, ?_⟩
  · unfold pcB
    exact bits_take (fun z hz => h1 z (List.mem_of_mem_drop hz)) _
  · unfold pcB
    rw [List.length_take, List.length_drop]
    omega
  · unfold pcL
    split
    · exact .inr rfl
    · exact .inl rfl
abbrev endsL (rws : List (List Int)) : List Int := (List.range rws.length).map fun i => ((endN rws (i + 1) : Nat) : Int)
theorem endsL_snoc {rws : List (List Int)} {r : List Int} {n : Nat} (h : n = endN (rws ++ [r]) (rws.length + 1)) : endsL (rws ++ [r]) = endsL rws ++ [(n : Int)] := by
  unfold endsL
  rw [List.length_append]
  show (List.range (rws.length + 1)).map _ = _
  rw [List.range_succ, List.map_append, h]
  congr 1
  refine List.map_congr_left fun i hi => ?_
  rw [endN_old (by have := List.mem_range.mp hi; omega)]
abbrev thD (th : List Nat) : List (Key × L2.V) := th.map fun (k : Nat) => ((.inl (k : Int) : Key), L2.V.bl true)
theorem thD_val (th : List Nat) (k : Int) : (valV (thD th) (.inl k)).isSome = decide (∃ n ∈ th, (n : Int) = k) := by
  rw [← valV_any]
  induction th with
  | nil => simp
  | cons n r ih =>
    rw [show thD (n :: r) = (.inl (n : Int), .bl true) :: thD r from rfl, List.any_cons, ih]
    by_cases z : (n : Int) = k
    · rw [decide_eq_true (by rw [z]), Bool.true_or]
      exact (decide_eq_true ⟨n, .head _, z⟩).symm
    · rw [decide_eq_false (by intro y; exact z (Sum.inl.inj y)), Bool.false_or]
      congr 1
      exact propext ⟨fun ⟨m, h1, h2⟩ => ⟨m, .tail _ h1, h2⟩, fun ⟨m, h1, h2⟩ => by
        rcases List.mem_cons.mp h1 with rfl | h1
        · exact absurd h2 z
        · exact ⟨m, h1, h2⟩⟩
theorem thD_put (th : List Nat) (n : Nat) : ∃ th1, putK (thD th) (.inl (n : Int)) (.bl true) = thD th1 ∧ th1.length ≤ th.length + 1 ∧ ∀ k, k ∈ th1 ↔ (k ∈ th ∨ k = n) := by
  by_cases z : n ∈ th
  · refine ⟨th, ?_, by omega, fun k => ⟨.inl, fun y => y.elim id fun y => by rw [y]; exact z⟩⟩
    unfold putK
    rw [valV_any, thD_val, if_pos (decide_eq_true ⟨n, z, rfl⟩)]
    unfold thD
    rw [List.map_map]
    refine List.map_congr_left fun k _ => ?_
    show (if (Sum.inl (k : Int) : Key) = .inl (n : Int) then (Sum.inl (k : Int), V.bl true) else _) = _
    split <;> rfl
  · refine ⟨th ++ [n], ?_, by rw [List.length_append]; exact Nat.le_refl _, fun k => by simp⟩
    unfold putK
    rw [valV_any, thD_val, if_neg]
    · unfold thD
      rw [List.map_append]
      rfl
    · intro y
      obtain ⟨m, h1, h2⟩ := of_decide_eq_true y
      exact z (by rw [show n = m by omega]; exact h1)
/-! ### the link and the law's sender, whatever is taken -/
structure G42 (S : LkS) (D : SD) (P : List WP) (hl : Nat) : Prop where
  ls : LkSd S D
  pc : ∀ p ∈ S.queue ++ S.sent, ∃ q : QT, D.ps[p.place]? = some q ∧ q.last = p.last ∧ q.bits = p.bits
  qp : S.queue.map (fun p => p.place) = List.range' D.sent (D.ps.length - D.sent)
  cut : S.cut = D.ps.length
  small : ∀ q ∈ D.ps, q.bits.length ≤ 40
  wsS : wsOf S.P = wsOf P
  w61 : W61 (wsOf P)
  plen : D.ps.length ≤ 20 * hl
  hl4 : hl ≤ 4
theorem pcs_place {cut : Nat} {bs : List Int} {n : Nat} {new : List PT} (h : PcsOf cut bs n new) : new.map (fun p => p.place) = List.range' cut n := by
  apply List.ext_getElem?
  intro i
  rw [List.getElem?_map]
  by_cases hi : i < n
  · obtain ⟨p, hp⟩ := getElem?_ex (l := new) (i := i) (by rw [h.len]; exact hi)
    rw [hp, List.getElem?_range' hi]
    have := (h.all i p hp).1
    show some p.place = _
    rw [this]
    congr 1
    omega
  · rw [List.getElem?_eq_none (by rw [h.len]; omega), List.getElem?_eq_none (by rw [List.length_range']; omega)]
    rfl
theorem G42.few {S : LkS} {D : SD} {P : List WP} {hl : Nat} (h : G42 S D P hl) : D.ps.length ≤ 80 := by
  have := h.plen
  have := h.hl4
  omega
theorem G42.slen {S : LkS} {D : SD} {P : List WP} {hl : Nat} (h : G42 S D P hl) : S.sent.length = D.sent - D.base := by
  have := h.ls.perm.length_eq
  rwa [List.length_map, List.length_range'] at this
theorem G42.ord {S : LkS} {D : SD} {P : List WP} {hl : Nat} (h : G42 S D P hl) : ∀ x ∈ D.ord, x < D.ps.length := fun x hx => by
  rw [← h.ls.ord] at hx
  have := h.ls.perm.mem_iff.mp hx
  rw [List.mem_range'_1] at this
  have := h.ls.sn
  have := h.ls.bs
  omega
theorem ls_mk {S : LkS} {D : SD} (bs : D.base ≤ D.sent) (sn : D.sent ≤ D.ps.length) (perm : (S.sent.map fun p => p.place).Perm (List.range' D.base (D.sent - D.base))) (ord : S.sent.map (fun p => p.place) = D.ord) (que : S.queue.length = D.ps.length - D.sent) (psl : D.ps.length ≤ 80) : LkSd S D := ⟨bs, sn, perm, ord, que, by
  have := perm.length_eq
  rw [List.length_map, List.length_range'] at this
  omega, by omega⟩
theorem G42.hand {S : LkS} {D : SD} {P P1 P2 : List WP} {hl : Nat} {bs : List Int} {new : List PT} {newq : List QT} {lp' : Addr} {ws : Wds} (h : G42 S D P hl) (h4 : hl < 4) (hb : bs.length ≤ 500) (a : PcsOf S.cut bs (pcN bs) new) (b : QcsOf bs (pcN bs) newq) (e1 : wsOf P1 = ws) (e2 : wsOf P2 = ws) (w : W61 ws) :
    G42 { S with P := P1, cut := S.cut + new.length, queue := S.queue ++ new } { D with lp := lp', ps := D.ps ++ newq } P2 (hl + 1) := by
  have hn : pcN bs ≤ 20 := by unfold pcN; omega
  have hbs := h.ls.bs
  have hsn := h.ls.sn
  have hpl : (D.ps ++ newq).length = D.ps.length + pcN bs := by rw [List.length_append, b.len]
  have hp20 := h.plen
  refine ⟨ls_mk hbs ?_ h.ls.perm h.ls.ord ?_ ?_, ?_, ?_, ?_, ?_, e1.trans e2.symm, by rw [e2]; exact w, ?_, h4⟩
  · show D.sent ≤ (D.ps ++ newq).length
    omega
  · show (S.queue ++ new).length = (D.ps ++ newq).length - D.sent
    rw [List.length_append, h.ls.que, a.len]
    omega
  · show (D.ps ++ newq).length ≤ 80
    omega
  · intro p hp
    show ∃ q : QT, (D.ps ++ newq)[p.place]? = some q ∧ _
    have old : p ∈ S.queue ++ S.sent → ∃ q : QT, (D.ps ++ newq)[p.place]? = some q ∧ q.last = p.last ∧ q.bits = p.bits := fun hp => by
      obtain ⟨q, e, r⟩ := h.pc p hp
      exact ⟨q, by rw [List.getElem?_append_left (List.getElem?_eq_some_iff.mp e).1]; exact e, r⟩
    rcases List.mem_append.mp hp with hp | hp
    · rcases List.mem_append.mp hp with hp | hp
      · exact old (List.mem_append_left _ hp)
      · obtain ⟨j, hj⟩ := List.getElem?_of_mem hp
        obtain ⟨x1, x2, x3⟩ := a.all j p hj
        have hjn : j < pcN bs := by rw [← a.len]; exact (List.getElem?_eq_some_iff.mp hj).1
        obtain ⟨q, hq⟩ := getElem?_ex (l := newq) (i := j) (by rw [b.len]; exact hjn)
        obtain ⟨y1, y2⟩ := b.all j q hq
        refine ⟨q, ?_, y1.trans x2.symm, y2.trans x3.symm⟩
        rw [x1, h.cut, List.getElem?_append_right (by omega), show D.ps.length + j - D.ps.length = j by omega]
        exact hq
    · exact old (List.mem_append_right _ hp)
  · show (S.queue ++ new).map _ = List.range' D.sent ((D.ps ++ newq).length - D.sent)
    rw [List.map_append, h.qp, pcs_place a, h.cut, hpl, show D.ps.length + pcN bs - D.sent = (D.ps.length - D.sent) + pcN bs by omega, ← List.range'_append_1, show D.sent + (D.ps.length - D.sent) = D.ps.length by omega]
  · show S.cut + new.length = _
    rw [hpl, h.cut, a.len]
  · intro q hq
    rcases List.mem_append.mp hq with hq | hq
    · exact h.small q hq
    · obtain ⟨j, hj⟩ := List.getElem?_of_mem hq
      rw [(b.all j q hj).2]
      exact pcB_le _ _
  · show (D.ps ++ newq).length ≤ 20 * (hl + 1)
    omega
theorem filter_range' (b n o : Nat) (h : o ≤ n) : (List.range' b n).filter (fun f => decide (b + o ≤ f)) = List.range' (b + o) (n - o) := by
  have e : List.range' b n = List.range' b o ++ List.range' (b + o) (n - o) := by
    rw [List.range'_append_1]
    congr 1
    omega
  rw [e, List.filter_append, List.filter_eq_nil_iff.mpr, List.filter_eq_self.mpr, List.nil_append]
  · intro x hx
    rw [List.mem_range'_1] at hx
    exact decide_eq_true (by omega)
  · intro x hx
    rw [List.mem_range'_1] at hx
    intro z
    have := of_decide_eq_true z
    omega
theorem G42.ans {S : LkS} {D : SD} {P : List WP} {hl : Nat} {ms : List Int} {a : Int} {lo' : Addr} (h : G42 S D P hl) (m : SrtP S.sent ms) : G42 { S with sent := ansL S.sent ms (a % 8) } { sdAns D a with lo := lo' } P hl := by
  have em := srt_eq h.ls m
  have hbs := h.ls.bs
  have hsn := h.ls.sn
  have hsl := h.slen
  have hf := h.few
  by_cases z : D.sent = D.base
  · have e0 : ms = [] := by rw [em, z, Nat.sub_self]; rfl
    have es : S.sent = [] := List.eq_nil_of_length_eq_zero (by omega)
    have eo : D.ord = [] := by rw [← h.ls.ord, es]; rfl
    have e1 : ansL S.sent ms (a % 8) = S.sent := by unfold ansL; rw [if_pos e0]
    rw [e1]
    unfold sdAns
    split
    · rename_i c
      have c0 : ((a - (D.base : Int)) % 8).toNat = 0 := by omega
      rw [c0, eo]
      exact ⟨ls_mk hbs hsn h.ls.perm (by show S.sent.map _ = []; rw [es]; rfl) h.ls.que hf, h.pc, h.qp, h.cut, h.small, h.wsS, h.w61, h.plen, h.hl4⟩
    · exact ⟨ls_mk hbs hsn h.ls.perm h.ls.ord h.ls.que hf, h.pc, h.qp, h.cut, h.small, h.wsS, h.w61, h.plen, h.hl4⟩
  · obtain ⟨k, hk⟩ : ∃ k, D.sent - D.base = k + 1 := ⟨D.sent - D.base - 1, by omega⟩
    have e0 : ms ≠ [] := by rw [em, hk]; exact fun z => nomatch z
    have e2 : ms.getD 0 0 = (D.base : Int) := by rw [em, hk]; rfl
    have e3 : ms.length = D.sent - D.base := by rw [em, List.length_map, List.length_range']
    have e4 : (a % 8 - (D.base : Int)) % 8 = (a - (D.base : Int)) % 8 := by omega
    unfold ansL sdAns
    rw [if_neg e0, e2, e3, e4]
    by_cases c : (a - (D.base : Int)) % 8 ≤ (D.sent : Int) - D.base
    · rw [if_pos c, if_pos (by omega)]
      obtain ⟨o, ho⟩ : ∃ o : Nat, (a - (D.base : Int)) % 8 = (o : Int) := ⟨((a - (D.base : Int)) % 8).toNat, by omega⟩
      rw [ho] at c ⊢
      rw [show ((o : Int)).toNat = o from rfl]
      have ef : (S.sent.filter fun p => decide ((D.base : Int) + (o : Int) ≤ (p.place : Int))) = S.sent.filter ((fun f => decide (D.base + o ≤ f)) ∘ fun p => p.place) := by
        congr 1
        funext p
        show decide _ = decide _
        congr 1
        exact propext ⟨fun (h : (D.base : Int) + (o : Int) ≤ ((p.place : Nat) : Int)) => (by omega : D.base + o ≤ p.place), fun (h : D.base + o ≤ p.place) => (by omega : (D.base : Int) + (o : Int) ≤ ((p.place : Nat) : Int))⟩
      have eg : (S.sent.filter fun p => decide ((D.base : Int) + (o : Int) ≤ (p.place : Int))).map (fun p => p.place) = (S.sent.map fun p => p.place).filter fun f => decide (D.base + o ≤ f) := by
        rw [ef, List.filter_map]
      refine ⟨ls_mk ?_ hsn ?_ ?_ h.ls.que hf, ?_, h.qp, h.cut, h.small, h.wsS, h.w61, h.plen, h.hl4⟩
      · show D.base + o ≤ D.sent
        omega
      · show ((S.sent.filter _).map _).Perm (List.range' (D.base + o) (D.sent - (D.base + o)))
        rw [eg, show D.sent - (D.base + o) = D.sent - D.base - o by omega, ← filter_range' _ _ _ (by omega)]
        exact h.ls.perm.filter _
      · show (S.sent.filter _).map _ = D.ord.filter _
        rw [eg, h.ls.ord]
      · intro p hp
        refine h.pc p ?_
        rcases List.mem_append.mp hp with q | q
        · exact List.mem_append_left _ q
        · exact List.mem_append_right _ ((List.mem_filter.mp q).1)
    · rw [if_neg c, if_neg (by omega)]
      exact ⟨ls_mk hbs hsn h.ls.perm h.ls.ord h.ls.que hf, h.pc, h.qp, h.cut, h.small, h.wsS, h.w61, h.plen, h.hl4⟩
theorem ansL_sub {ps : List PT} {ms : List Int} {a : Int} : ∀ p ∈ ansL ps ms a, p ∈ ps := fun p hp => by
  unfold ansL at hp
  split at hp
  · exact hp
  split at hp
  · exact (List.mem_filter.mp hp).1
  · exact hp
/-- what the next frame is on both sides -/
theorem G42.frame {S : LkS} {D : SD} {P : List WP} {hl : Nat} (h : G42 S D P hl) : (frMove S.queue S.sent = none ∧ sdMove D = none) ∨ ∃ (q' s' : List PT) (x : PT) (D' : SD) (pq : QT), frMove S.queue S.sent = some (q', s', x) ∧ sdMove D = some (D', x.place) ∧ D.ps[x.place]? = some pq ∧ pq.last = x.last ∧ pq.bits = x.bits ∧
    (∀ p ∈ q' ++ (s' ++ [x]), p ∈ S.queue ++ S.sent) ∧ D'.d = D.d ∧ D'.lp = D.lp ∧ D'.ps = D.ps ∧ ∀ lo', G42 { S with queue := q', sent := s' ++ [x], owes := false } { D' with lo := lo' } P hl := by
  have hbs := h.ls.bs
  have hsn := h.ls.sn
  have hsl := h.slen
  have hf := h.few
  have hq := h.ls.que
  have hqp := h.qp
  have rot : ∀ (y : PT) (s' : List PT), S.sent = y :: s' → ¬ (D.sent < D.ps.length ∧ D.sent < D.base + 4) → sdMove D = some ({ D with ord := s'.map (fun p => p.place) ++ [y.place] }, y.place) ∧ ∀ lo', G42 { S with queue := S.queue, sent := s' ++ [y], owes := false } { D with ord := s'.map (fun p => p.place) ++ [y.place], lo := lo' } P hl := fun y s' e n => by
    have eo : D.ord = y.place :: s'.map (fun p => p.place) := by rw [← h.ls.ord, e]; rfl
    refine ⟨?_, fun lo' => ⟨ls_mk hbs hsn ?_ ?_ hq hf, ?_, hqp, h.cut, h.small, h.wsS, h.w61, h.plen, h.hl4⟩⟩
    · unfold sdMove
      rw [if_neg n, eo]
    · have p := h.ls.perm
      rw [e] at p
      refine List.Perm.trans (List.Perm.map _ ?_) p
      exact List.perm_append_comm (l₁ := s') (l₂ := [y])
    · show (s' ++ [y]).map _ = _
      rw [List.map_append]
      rfl
    · intro p hp
      refine h.pc p ?_
      rw [e]
      rcases List.mem_append.mp hp with z | z
      · exact List.mem_append_left _ z
      · refine List.mem_append_right _ ?_
        rcases List.mem_append.mp z with z | z
        · exact .tail _ z
        · rw [List.mem_singleton.mp z]
          exact .head _
  have sub : ∀ (y : PT) (s' : List PT) (q' : List PT), S.sent = y :: s' → S.queue = q' → ∀ p ∈ q' ++ (s' ++ [y]), p ∈ S.queue ++ S.sent := fun y s' q' e eq p hp => by
    rw [e, eq]
    rcases List.mem_append.mp hp with z | z
    · exact List.mem_append_left _ z
    · refine List.mem_append_right _ ?_
      rcases List.mem_append.mp z with z | z
      · exact .tail _ z
      · rw [List.mem_singleton.mp z]
        exact .head _
  cases eq : S.queue with
  | nil =>
    have e0 : D.ps.length - D.sent = 0 := by rw [← hq, eq]; rfl
    have n : ¬ (D.sent < D.ps.length ∧ D.sent < D.base + 4) := fun z => by omega
    cases es : S.sent with
    | nil =>
      left
      refine ⟨rfl, ?_⟩
      have eo : D.ord = [] := by rw [← h.ls.ord, es]; rfl
      unfold sdMove
      rw [if_neg n, eo]
    | cons y s' =>
      right
      obtain ⟨pq, h1, h2, h3⟩ := h.pc y (by rw [es]; exact List.mem_append_right _ (.head _))
      obtain ⟨r1, r2⟩ := rot y s' es n
      rw [eq] at r2
      have sb := sub y s' [] es eq
      rw [eq, es] at sb
      exact ⟨[], s', y, _, pq, rfl, r1, h1, h2, h3, sb, rfl, rfl, rfl, r2⟩
  | cons x q' =>
    have hlt : D.sent < D.ps.length := by
      rw [eq, List.length_cons] at hq
      omega
    obtain ⟨k, hk⟩ : ∃ k, D.ps.length - D.sent = k + 1 := ⟨D.ps.length - D.sent - 1, by omega⟩
    rw [eq, hk, List.range'_succ, List.map_cons] at hqp
    injection hqp with hx hqp
    by_cases c : S.sent.length < 4
    · right
      obtain ⟨pq, h1, h2, h3⟩ := h.pc x (by rw [eq]; exact List.mem_append_left _ (.head _))
      refine ⟨q', S.sent, x, { D with sent := D.sent + 1, ord := D.ord ++ [D.sent] }, pq, ?_, ?_, h1, h2, h3, ?_, rfl, rfl, rfl, fun lo' => ⟨ls_mk ?_ ?_ ?_ ?_ ?_ hf, ?_, ?_, h.cut, h.small, h.wsS, h.w61, h.plen, h.hl4⟩⟩
      · show (if S.sent.length < 4 then _ else _) = _
        rw [if_pos c]
      · unfold sdMove
        rw [if_pos ⟨hlt, by omega⟩, hx]
      · intro p hp
        rcases List.mem_append.mp hp with z | z
        · exact List.mem_append_left _ (.tail _ z)
        · rcases List.mem_append.mp z with z | z
          · exact List.mem_append_right _ z
          · rw [List.mem_singleton.mp z]
            exact List.mem_append_left _ (.head _)
      · show D.base ≤ D.sent + 1
        omega
      · show D.sent + 1 ≤ D.ps.length
        omega
      · show ((S.sent ++ [x]).map _).Perm (List.range' D.base (D.sent + 1 - D.base))
        rw [List.map_append, show D.sent + 1 - D.base = (D.sent - D.base) + 1 by omega, List.range'_1_concat, show D.base + (D.sent - D.base) = D.sent by omega]
        show (_ ++ [x.place]).Perm _
        rw [hx]
        exact h.ls.perm.append_right _
      · show (S.sent ++ [x]).map _ = D.ord ++ [D.sent]
        rw [List.map_append, h.ls.ord]
        show _ ++ [x.place] = _
        rw [hx]
      · show q'.length = D.ps.length - (D.sent + 1)
        rw [eq, List.length_cons] at hq
        omega
      · intro p hp
        refine h.pc p ?_
        rw [eq]
        rcases List.mem_append.mp hp with z | z
        · exact List.mem_append_left _ (.tail _ z)
        · rcases List.mem_append.mp z with z | z
          · exact List.mem_append_right _ z
          · rw [List.mem_singleton.mp z]
            exact List.mem_append_left _ (.head _)
      · show q'.map _ = List.range' (D.sent + 1) (D.ps.length - (D.sent + 1))
        rw [hqp]
        congr 1
        omega
    · have n : ¬ (D.sent < D.ps.length ∧ D.sent < D.base + 4) := fun z => by omega
      cases es : S.sent with
      | nil =>
        rw [es] at c
        exact absurd (by decide) c
      | cons y s' =>
        right
        obtain ⟨pq, h1, h2, h3⟩ := h.pc y (by rw [es]; exact List.mem_append_right _ (.head _))
        obtain ⟨r1, r2⟩ := rot y s' es n
        rw [eq] at r2
        have sb := sub y s' (x :: q') es eq
        rw [eq, es] at sb
        refine ⟨x :: q', s', y, _, pq, ?_, r1, h1, h2, h3, sb, rfl, rfl, rfl, r2⟩
        show (if (y :: s').length < 4 then _ else _) = _
        rw [if_neg (by rw [es] at c; exact c)]
theorem G42.nil (ws : W61 []) : ∀ {d lp lo : Addr}, G42 ⟨[], 0, [], [], false, [], 0, [], []⟩ ⟨d, lp, lo, [], 0, 0, []⟩ [] 0 := fun {d lp lo} => ⟨ls_mk (Nat.le_refl _) (Nat.le_refl _) (List.Perm.refl _) rfl rfl (Nat.zero_le _), (fun p hp => absurd hp List.not_mem_nil), rfl, rfl, (fun q hq => absurd hq List.not_mem_nil), rfl, ws, Nat.le_refl _, Nat.zero_le _⟩
section
variable {K : PySem.W.Frag} {L : List (Addr × List L2.V)} {T0 : List (Addr × Str)} {Ts : List Th} {po : List PT} {qs : List QT} {H : Hp} {T : Th}
theorem po_ok {i j : Nat} (h : Hw K L T0 Ts H) (hi : Ts[i]? = some (tG (po.map fN))) (hj : Ts[j]? = some T) (n : i ≠ j) (hL : ∀ p ∈ po, (p.t, ptV p) ∈ L) : PcOk K T.ft po H := fun p hp => by
  obtain ⟨k, hk⟩ := List.getElem?_of_mem hp
  have g : (fN p).P H := h.gget i hi hk
  exact ⟨h.tf _ (hL p hp), g.1, h.hs.sep i j _ _ n hi hj p.ba (mem_tG.mpr ⟨p, hp, .head _⟩)⟩
theorem qo_ok {i j : Nat} (h : Hw K L T0 Ts H) (hi : Ts[i]? = some (tG (qs.map fQ))) (hj : Ts[j]? = some T) (n : i ≠ j) (hL : ∀ p ∈ qs, (p.t, qtV p) ∈ L) (hs : ∀ q ∈ qs, q.bits.length ≤ 40) : QcOk K T.ft qs H := fun p hp => by
  obtain ⟨k, hk⟩ := List.getElem?_of_mem hp
  have g : (fQ p).P H := h.gget i hi hk
  exact ⟨h.tf _ (hL p hp), g.1, h.hs.sep i j _ _ n hi hj p.ba (mem_tG.mpr ⟨p, hp, .head _⟩), by have := hs p hp; omega⟩
end
theorem ansHead {z : Int} (h0 : 0 ≤ z) (h8 : z < 8) : Bits (headL 0 z 0 0) ∧ (headL 0 z 0 0).length = 8 ∧ pForm (headL 0 z 0 0) = true ∧ pCom (headL 0 z 0 0) = 0 ∧ pAns (headL 0 z 0 0) = z := by
  have h : z = 0 ∨ z = 1 ∨ z = 2 ∨ z = 3 ∨ z = 4 ∨ z = 5 ∨ z = 6 ∨ z = 7 := by omega
  refine ⟨bits_app (bits_app (wr_bits 3 _) (wr_bits 3 _)) (fun x hx => ?_), ?_⟩
  · rcases List.mem_cons.mp hx with rfl | hx
    · exact .inl rfl
    · rw [List.mem_singleton.mp hx]
      exact .inl rfl
  · rcases h with rfl | rfl | rfl | rfl | rfl | rfl | rfl | rfl <;> exact ⟨by decide, by decide, by decide, by decide⟩
theorem bits_pc {S : LkS} {D : SD} {P : List WP} {hl : Nat} (h : G42 S D P hl) : ∀ p ∈ S.queue ++ S.sent, p.bits.length ≤ 40 := fun p hp => by
  obtain ⟨q, e, _, e2⟩ := h.pc p hp
  rw [← e2]
  exact h.small q (List.mem_of_getElem? e)
theorem w61_fold : ∀ (l : List (List Int)) (ws : Wds), W61 ws → (∀ r ∈ l, r.length ≤ 60) → W61 (l.foldl (fun ws r => (bkShort ws r).2) ws)
  | [], ws, h, _ => h
  | r :: l, ws, h, hl => w61_fold l _ (w61_short h (hl r (.head _))) fun x hx => hl x (.tail _ hx)
theorem W43.w61 {rws : List (List Int)} {qs : List QT} {iws : Wds} {place : Nat} {kept : List KT} {begun : List Int} {th : List Nat} (h : W43 rws qs iws place kept begun th) : W61 iws := by
  obtain ⟨j, hp⟩ := h.pos
  rw [hp.ws]
  exact w61_fold _ _ w61_nil fun r hr => (h.byt r (List.mem_of_mem_take hr)).2
theorem W43.start {rws : List (List Int)} {qs : List QT} (h : QsOk rws qs) (hb : ∀ r ∈ rws, Bytes r ∧ r.length ≤ 60) : W43 rws qs [] 0 [] [] [] := ⟨h, hb, ⟨0, PosR.start rws⟩, fun x hx => absurd hx List.not_mem_nil, fun x hx => absurd hx List.not_mem_nil, List.nodup_nil, fun k _ => ⟨fun z => absurd z List.not_mem_nil, fun z => absurd rfl z⟩, rfl⟩
abbrev Z43 (CB CI CL : Addr) (A : LA) (S : LkS) (b : Addr × Addr) (lh lq le dt : Addr) (rs : List (Addr × List Int)) (qs : List QT) (pl : List (Addr × List Int)) (th : List Nat) : List Th := [tB b, tL lh (refsR rs), tG (rs.map fR), tL lq (refsQ qs), tG (qs.map fQ), tL le ((endsL (rs.map fun r => r.2)).map L2.V.int), tLk CB CI CL A S, tG (pl.map fR), tO dt (.dK (thD th))]
abbrev L43 (S : LkS) (qs : List QT) : List (Addr × List L2.V) := knW S.iP ++ (knK S.kept ++ knQ qs)
structure I43 (S : LkS) (ow : Bool) (rs : List (Addr × List Int)) (qs : List QT) (pl : List (Addr × List Int)) (th : List Nat) (m : Nat) : Prop where
  q0 : S.queue = []
  s0 : S.sent = []
  ow : S.owes = ow
  w : W43 (rs.map fun r => r.2) qs (wsOf S.iP) S.place S.kept S.begun th
  pl : ∀ x ∈ S.kept, (x.ba, x.bits) ∈ pl
  tl : th.length ≤ m
def J43 (K : PySem.W.Frag) (CB CI CL a lw lm lh lq le dt : Addr) (b : Addr × Addr) (y8 : Option L2.V) (rs : List (Addr × List Int)) (qs : List QT) (m : Nat) (σ : L2.St) (H' : Hp) : Prop := ∃ (A : LA) (S : LkS) (th : List Nat) (pl : List (Addr × List Int)) (ow : Bool) (y12 y13 y14 y15 y16 y17 y18 y19 y20 y21 y22 : Option L2.V), σ = [some (.ref a), some (.ref b.1), some (.ref A.r), some (.ref lw), some (.ref lm), some (.ref lh), some (.ref lq), some (.ref le), y8, some (.ref dt), some (.int (S.place : Int)), some (.bl ow), y12, y13, y14, y15, y16, y17, y18, y19, y20, y21, y22] ∧ Hw K (L43 S qs) [] (Z43 CB CI CL A S b lh lq le dt rs qs pl th) H' ∧ I43 S ow rs qs pl th m
theorem kb_ok {K : PySem.W.Frag} {L : List (Addr × List L2.V)} {T0 : List (Addr × Str)} {Ts : List Th} {T : Th} {S : LkS} {ow : Bool} {rs : List (Addr × List Int)} {qs : List QT} {pl : List (Addr × List Int)} {th : List Nat} {m : Nat} {H : Hp} {i j : Nat} (I : I43 S ow rs qs pl th m) (h : Hw K L T0 Ts H) (hi : Ts[i]? = some (tG (pl.map fR))) (hj : Ts[j]? = some T) (n : i ≠ j) : KbOk T.ft S.kept H := fun x hx => by
  have hm := I.pl x hx
  obtain ⟨k, hk⟩ := List.getElem?_of_mem hm
  have g : (fR (x.ba, x.bits)).P H := h.gget i hi hk
  obtain ⟨q, e1, _, e3⟩ := I.w.kq x hx
  have := qs_ok I.w.qok q (List.mem_of_getElem? e1)
  rw [e3] at this
  exact ⟨g.1, h.hs.sep i j _ _ n hi hj x.ba (mem_tG.mpr ⟨(x.ba, x.bits), hm, .head _⟩), this.1, this.2.2.1⟩
theorem rows_mid {rws : List (List Int)} {j m : Nat} (h : j + m ≤ rws.length) : (rws.drop j).take m = (List.range' j m).map (rowAt rws) := by
  apply List.ext_getElem?
  intro i
  rw [List.getElem?_map, List.getElem?_take]
  by_cases z : i < m
  · rw [if_pos z, List.getElem?_drop, List.getElem?_range' z, List.getElem?_eq_getElem (by omega)]
    unfold rowAt
    simp
    rw [List.getElem?_eq_getElem (by omega)]
    rfl
  · rw [if_neg z, List.getElem?_eq_none (by rw [List.length_range']; omega)]
    rfl
theorem dn_ib (z : Int) (b : Bool) (n : Nat) : Dn (n + 3) (.list [.int z, .bool b]) := .inr (.inr (.inr (.inr ⟨_, .inl rfl, (by show 2 ≤ 100000; decide), fun e he => by
  rcases List.mem_cons.mp he with rfl | he
  · exact .inr (.inl ⟨z, rfl⟩)
  · rw [List.mem_singleton.mp he]
    exact .inl ⟨b, rfl⟩⟩)))
theorem shaped_ib (z : Int) (b : Bool) : SeqAt.shaped (.list [.int z, .bool b]) = true := rfl
theorem take_grow {α : Type} {rs : List α} {j j' t : Nat} {r : α} (hr : rs[t]? = some r) (h : j ≤ t ∧ t < j') : (rs.drop j).take (min (t + 1) j' - j) = (rs.drop j).take (min t j' - j) ++ [r] := by
  rw [show min (t + 1) j' - j = (t - j) + 1 by omega, show min t j' - j = t - j by omega, List.take_succ, List.getElem?_drop, show j + (t - j) = t by omega, hr]
  rfl
theorem take_same {α : Type} {rs : List α} {j j' t : Nat} (h : ¬ (j ≤ t ∧ t < j')) : (rs.drop j).take (min (t + 1) j' - j) = (rs.drop j).take (min t j' - j) := by
  congr 1
  omega
/-! ### the dict of both halves -/
abbrev m6T (o10 w11 h12 i13 e14 r15 : L2.V) : List (Key × L2.V) := [(.inr "out", o10), (.inr "words", w11), (.inr "heap", h12), (.inr "in", i13), (.inr "ends", e14), (.inr "rows", r15)]
section
variable {o10 w11 h12 i13 e14 r15 v : L2.V} {H : Hp} {d : Addr}
theorem m6_out_words : ¬ (Str.ofString "out") = Str.ofString "words" := by decide
theorem m6_out_heap : ¬ (Str.ofString "out") = Str.ofString "heap" := by decide
theorem m6_out_in : ¬ (Str.ofString "out") = Str.ofString "in" := by decide
theorem m6_out_ends : ¬ (Str.ofString "out") = Str.ofString "ends" := by decide
theorem m6_out_rows : ¬ (Str.ofString "out") = Str.ofString "rows" := by decide
theorem m6_words_out : ¬ (Str.ofString "words") = Str.ofString "out" := by decide
theorem m6_words_heap : ¬ (Str.ofString "words") = Str.ofString "heap" := by decide
theorem m6_words_in : ¬ (Str.ofString "words") = Str.ofString "in" := by decide
theorem m6_words_ends : ¬ (Str.ofString "words") = Str.ofString "ends" := by decide
theorem m6_words_rows : ¬ (Str.ofString "words") = Str.ofString "rows" := by decide
theorem m6_heap_out : ¬ (Str.ofString "heap") = Str.ofString "out" := by decide
theorem m6_heap_words : ¬ (Str.ofString "heap") = Str.ofString "words" := by decide
theorem m6_heap_in : ¬ (Str.ofString "heap") = Str.ofString "in" := by decide
theorem m6_heap_ends : ¬ (Str.ofString "heap") = Str.ofString "ends" := by decide
theorem m6_heap_rows : ¬ (Str.ofString "heap") = Str.ofString "rows" := by decide
theorem m6_in_out : ¬ (Str.ofString "in") = Str.ofString "out" := by decide
theorem m6_in_words : ¬ (Str.ofString "in") = Str.ofString "words" := by decide
theorem m6_in_heap : ¬ (Str.ofString "in") = Str.ofString "heap" := by decide
theorem m6_in_ends : ¬ (Str.ofString "in") = Str.ofString "ends" := by decide
theorem m6_in_rows : ¬ (Str.ofString "in") = Str.ofString "rows" := by decide
theorem m6_ends_out : ¬ (Str.ofString "ends") = Str.ofString "out" := by decide
theorem m6_ends_words : ¬ (Str.ofString "ends") = Str.ofString "words" := by decide
theorem m6_ends_heap : ¬ (Str.ofString "ends") = Str.ofString "heap" := by decide
theorem m6_ends_in : ¬ (Str.ofString "ends") = Str.ofString "in" := by decide
theorem m6_ends_rows : ¬ (Str.ofString "ends") = Str.ofString "rows" := by decide
theorem m6_rows_out : ¬ (Str.ofString "rows") = Str.ofString "out" := by decide
theorem m6_rows_words : ¬ (Str.ofString "rows") = Str.ofString "words" := by decide
theorem m6_rows_heap : ¬ (Str.ofString "rows") = Str.ofString "heap" := by decide
theorem m6_rows_in : ¬ (Str.ofString "rows") = Str.ofString "in" := by decide
theorem m6_rows_ends : ¬ (Str.ofString "rows") = Str.ofString "ends" := by decide
theorem m6n_out_words : ¬ (Sum.inr "out" : Key) = .inr "words" := by decide
theorem m6n_out_heap : ¬ (Sum.inr "out" : Key) = .inr "heap" := by decide
theorem m6n_out_in : ¬ (Sum.inr "out" : Key) = .inr "in" := by decide
theorem m6n_out_ends : ¬ (Sum.inr "out" : Key) = .inr "ends" := by decide
theorem m6n_out_rows : ¬ (Sum.inr "out" : Key) = .inr "rows" := by decide
theorem m6n_words_heap : ¬ (Sum.inr "words" : Key) = .inr "heap" := by decide
theorem m6n_words_in : ¬ (Sum.inr "words" : Key) = .inr "in" := by decide
theorem m6n_words_ends : ¬ (Sum.inr "words" : Key) = .inr "ends" := by decide
theorem m6n_words_rows : ¬ (Sum.inr "words" : Key) = .inr "rows" := by decide
theorem m6n_heap_in : ¬ (Sum.inr "heap" : Key) = .inr "in" := by decide
theorem m6n_heap_ends : ¬ (Sum.inr "heap" : Key) = .inr "ends" := by decide
theorem m6n_heap_rows : ¬ (Sum.inr "heap" : Key) = .inr "rows" := by decide
theorem m6n_in_ends : ¬ (Sum.inr "in" : Key) = .inr "ends" := by decide
theorem m6n_in_rows : ¬ (Sum.inr "in" : Key) = .inr "rows" := by decide
theorem m6n_ends_rows : ¬ (Sum.inr "ends" : Key) = .inr "rows" := by decide
theorem m6g_out (hd : H d = some (.dK (m6T o10 w11 h12 i13 e14 r15))) : DGet H d (.str "out") (some o10) := by
  have g := DGet.k (k := .inr "out") hd
  rwa [valV_pos rfl] at g
theorem m6g_words (hd : H d = some (.dK (m6T o10 w11 h12 i13 e14 r15))) : DGet H d (.str "words") (some w11) := by
  have g := DGet.k (k := .inr "words") hd
  rwa [valV_neg m6n_out_words, valV_pos rfl] at g
theorem m6g_heap (hd : H d = some (.dK (m6T o10 w11 h12 i13 e14 r15))) : DGet H d (.str "heap") (some h12) := by
  have g := DGet.k (k := .inr "heap") hd
  rwa [valV_neg m6n_out_heap, valV_neg m6n_words_heap, valV_pos rfl] at g
theorem m6g_in (hd : H d = some (.dK (m6T o10 w11 h12 i13 e14 r15))) : DGet H d (.str "in") (some i13) := by
  have g := DGet.k (k := .inr "in") hd
  rwa [valV_neg m6n_out_in, valV_neg m6n_words_in, valV_neg m6n_heap_in, valV_pos rfl] at g
theorem m6g_ends (hd : H d = some (.dK (m6T o10 w11 h12 i13 e14 r15))) : DGet H d (.str "ends") (some e14) := by
  have g := DGet.k (k := .inr "ends") hd
  rwa [valV_neg m6n_out_ends, valV_neg m6n_words_ends, valV_neg m6n_heap_ends, valV_neg m6n_in_ends, valV_pos rfl] at g
theorem m6g_rows (hd : H d = some (.dK (m6T o10 w11 h12 i13 e14 r15))) : DGet H d (.str "rows") (some r15) := by
  have g := DGet.k (k := .inr "rows") hd
  rwa [valV_neg m6n_out_rows, valV_neg m6n_words_rows, valV_neg m6n_heap_rows, valV_neg m6n_in_rows, valV_neg m6n_ends_rows, valV_pos rfl] at g
theorem m6p_out (hd : H d = some (.dK (m6T o10 w11 h12 i13 e14 r15))) : DPut H d (.str "out") v (upd H d (.dK (m6T v w11 h12 i13 e14 r15))) := by
  have g := DPut.k (k := .inr "out") (v := v) hd (by show 6 < sizeLine; decide)
  have ep : putK (m6T o10 w11 h12 i13 e14 r15) (.inr "out") v = m6T v w11 h12 i13 e14 r15 := by
    unfold putK
    rw [valV_any, valV_pos rfl]
    simp [m6_words_out, m6_heap_out, m6_in_out, m6_ends_out, m6_rows_out]
  rwa [ep] at g
theorem m6p_words (hd : H d = some (.dK (m6T o10 w11 h12 i13 e14 r15))) : DPut H d (.str "words") v (upd H d (.dK (m6T o10 v h12 i13 e14 r15))) := by
  have g := DPut.k (k := .inr "words") (v := v) hd (by show 6 < sizeLine; decide)
  have ep : putK (m6T o10 w11 h12 i13 e14 r15) (.inr "words") v = m6T o10 v h12 i13 e14 r15 := by
    unfold putK
    rw [valV_any, valV_neg m6n_out_words, valV_pos rfl]
    simp [m6_out_words, m6_heap_words, m6_in_words, m6_ends_words, m6_rows_words]
  rwa [ep] at g
theorem m6p_heap (hd : H d = some (.dK (m6T o10 w11 h12 i13 e14 r15))) : DPut H d (.str "heap") v (upd H d (.dK (m6T o10 w11 v i13 e14 r15))) := by
  have g := DPut.k (k := .inr "heap") (v := v) hd (by show 6 < sizeLine; decide)
  have ep : putK (m6T o10 w11 h12 i13 e14 r15) (.inr "heap") v = m6T o10 w11 v i13 e14 r15 := by
    unfold putK
    rw [valV_any, valV_neg m6n_out_heap, valV_neg m6n_words_heap, valV_pos rfl]
    simp [m6_out_heap, m6_words_heap, m6_in_heap, m6_ends_heap, m6_rows_heap]
  rwa [ep] at g
theorem m6p_in (hd : H d = some (.dK (m6T o10 w11 h12 i13 e14 r15))) : DPut H d (.str "in") v (upd H d (.dK (m6T o10 w11 h12 v e14 r15))) := by
  have g := DPut.k (k := .inr "in") (v := v) hd (by show 6 < sizeLine; decide)
  have ep : putK (m6T o10 w11 h12 i13 e14 r15) (.inr "in") v = m6T o10 w11 h12 v e14 r15 := by
    unfold putK
    rw [valV_any, valV_neg m6n_out_in, valV_neg m6n_words_in, valV_neg m6n_heap_in, valV_pos rfl]
    simp [m6_out_in, m6_words_in, m6_heap_in, m6_ends_in, m6_rows_in]
  rwa [ep] at g
theorem m6p_ends (hd : H d = some (.dK (m6T o10 w11 h12 i13 e14 r15))) : DPut H d (.str "ends") v (upd H d (.dK (m6T o10 w11 h12 i13 v r15))) := by
  have g := DPut.k (k := .inr "ends") (v := v) hd (by show 6 < sizeLine; decide)
  have ep : putK (m6T o10 w11 h12 i13 e14 r15) (.inr "ends") v = m6T o10 w11 h12 i13 v r15 := by
    unfold putK
    rw [valV_any, valV_neg m6n_out_ends, valV_neg m6n_words_ends, valV_neg m6n_heap_ends, valV_neg m6n_in_ends, valV_pos rfl]
    simp [m6_out_ends, m6_words_ends, m6_heap_ends, m6_in_ends, m6_rows_ends]
  rwa [ep] at g
theorem m6p_rows (hd : H d = some (.dK (m6T o10 w11 h12 i13 e14 r15))) : DPut H d (.str "rows") v (upd H d (.dK (m6T o10 w11 h12 i13 e14 v))) := by
  have g := DPut.k (k := .inr "rows") (v := v) hd (by show 6 < sizeLine; decide)
  have ep : putK (m6T o10 w11 h12 i13 e14 r15) (.inr "rows") v = m6T o10 w11 h12 i13 e14 v := by
    unfold putK
    rw [valV_any, valV_neg m6n_out_rows, valV_neg m6n_words_rows, valV_neg m6n_heap_rows, valV_neg m6n_in_rows, valV_neg m6n_ends_rows, valV_pos rfl]
    simp [m6_out_rows, m6_words_rows, m6_heap_rows, m6_in_rows, m6_ends_rows]
  rwa [ep] at g
theorem m6T_merge : mergeK [] (m6T o10 w11 h12 i13 e14 r15) = m6T o10 w11 h12 i13 e14 r15 := by
  unfold mergeK
  simp [putK, m6_out_words, m6_out_heap, m6_out_in, m6_out_ends, m6_out_rows, m6_words_out, m6_words_heap, m6_words_in, m6_words_ends, m6_words_rows, m6_heap_out, m6_heap_words, m6_heap_in, m6_heap_ends, m6_heap_rows, m6_in_out, m6_in_words, m6_in_heap, m6_in_ends, m6_in_rows, m6_ends_out, m6_ends_words, m6_ends_heap, m6_ends_in, m6_ends_rows, m6_rows_out, m6_rows_words, m6_rows_heap, m6_rows_in, m6_rows_ends]
end

abbrev m9T (o10 w11 h12 i13 e14 r15 t16 e17 o18 : L2.V) : List (Key × L2.V) := [(.inr "out", o10), (.inr "words", w11), (.inr "heap", h12), (.inr "in", i13), (.inr "ends", e14), (.inr "rows", r15), (.inr "there", t16), (.inr "expected", e17), (.inr "owed", o18)]
section
variable {o10 w11 h12 i13 e14 r15 t16 e17 o18 v : L2.V} {H : Hp} {d : Addr}
theorem m9_out_words : ¬ (Str.ofString "out") = Str.ofString "words" := by decide
theorem m9_out_heap : ¬ (Str.ofString "out") = Str.ofString "heap" := by decide
theorem m9_out_in : ¬ (Str.ofString "out") = Str.ofString "in" := by decide
theorem m9_out_ends : ¬ (Str.ofString "out") = Str.ofString "ends" := by decide
theorem m9_out_rows : ¬ (Str.ofString "out") = Str.ofString "rows" := by decide
theorem m9_out_there : ¬ (Str.ofString "out") = Str.ofString "there" := by decide
theorem m9_out_expected : ¬ (Str.ofString "out") = Str.ofString "expected" := by decide
theorem m9_out_owed : ¬ (Str.ofString "out") = Str.ofString "owed" := by decide
theorem m9_words_out : ¬ (Str.ofString "words") = Str.ofString "out" := by decide
theorem m9_words_heap : ¬ (Str.ofString "words") = Str.ofString "heap" := by decide
theorem m9_words_in : ¬ (Str.ofString "words") = Str.ofString "in" := by decide
theorem m9_words_ends : ¬ (Str.ofString "words") = Str.ofString "ends" := by decide
theorem m9_words_rows : ¬ (Str.ofString "words") = Str.ofString "rows" := by decide
theorem m9_words_there : ¬ (Str.ofString "words") = Str.ofString "there" := by decide
theorem m9_words_expected : ¬ (Str.ofString "words") = Str.ofString "expected" := by decide
theorem m9_words_owed : ¬ (Str.ofString "words") = Str.ofString "owed" := by decide
theorem m9_heap_out : ¬ (Str.ofString "heap") = Str.ofString "out" := by decide
theorem m9_heap_words : ¬ (Str.ofString "heap") = Str.ofString "words" := by decide
theorem m9_heap_in : ¬ (Str.ofString "heap") = Str.ofString "in" := by decide
theorem m9_heap_ends : ¬ (Str.ofString "heap") = Str.ofString "ends" := by decide
theorem m9_heap_rows : ¬ (Str.ofString "heap") = Str.ofString "rows" := by decide
theorem m9_heap_there : ¬ (Str.ofString "heap") = Str.ofString "there" := by decide
theorem m9_heap_expected : ¬ (Str.ofString "heap") = Str.ofString "expected" := by decide
theorem m9_heap_owed : ¬ (Str.ofString "heap") = Str.ofString "owed" := by decide
theorem m9_in_out : ¬ (Str.ofString "in") = Str.ofString "out" := by decide
theorem m9_in_words : ¬ (Str.ofString "in") = Str.ofString "words" := by decide
theorem m9_in_heap : ¬ (Str.ofString "in") = Str.ofString "heap" := by decide
theorem m9_in_ends : ¬ (Str.ofString "in") = Str.ofString "ends" := by decide
theorem m9_in_rows : ¬ (Str.ofString "in") = Str.ofString "rows" := by decide
theorem m9_in_there : ¬ (Str.ofString "in") = Str.ofString "there" := by decide
theorem m9_in_expected : ¬ (Str.ofString "in") = Str.ofString "expected" := by decide
theorem m9_in_owed : ¬ (Str.ofString "in") = Str.ofString "owed" := by decide
theorem m9_ends_out : ¬ (Str.ofString "ends") = Str.ofString "out" := by decide
theorem m9_ends_words : ¬ (Str.ofString "ends") = Str.ofString "words" := by decide
theorem m9_ends_heap : ¬ (Str.ofString "ends") = Str.ofString "heap" := by decide
theorem m9_ends_in : ¬ (Str.ofString "ends") = Str.ofString "in" := by decide
theorem m9_ends_rows : ¬ (Str.ofString "ends") = Str.ofString "rows" := by decide
theorem m9_ends_there : ¬ (Str.ofString "ends") = Str.ofString "there" := by decide
theorem m9_ends_expected : ¬ (Str.ofString "ends") = Str.ofString "expected" := by decide
theorem m9_ends_owed : ¬ (Str.ofString "ends") = Str.ofString "owed" := by decide
theorem m9_rows_out : ¬ (Str.ofString "rows") = Str.ofString "out" := by decide
theorem m9_rows_words : ¬ (Str.ofString "rows") = Str.ofString "words" := by decide
theorem m9_rows_heap : ¬ (Str.ofString "rows") = Str.ofString "heap" := by decide
theorem m9_rows_in : ¬ (Str.ofString "rows") = Str.ofString "in" := by decide
theorem m9_rows_ends : ¬ (Str.ofString "rows") = Str.ofString "ends" := by decide
theorem m9_rows_there : ¬ (Str.ofString "rows") = Str.ofString "there" := by decide
theorem m9_rows_expected : ¬ (Str.ofString "rows") = Str.ofString "expected" := by decide
theorem m9_rows_owed : ¬ (Str.ofString "rows") = Str.ofString "owed" := by decide
theorem m9_there_out : ¬ (Str.ofString "there") = Str.ofString "out" := by decide
theorem m9_there_words : ¬ (Str.ofString "there") = Str.ofString "words" := by decide
theorem m9_there_heap : ¬ (Str.ofString "there") = Str.ofString "heap" := by decide
theorem m9_there_in : ¬ (Str.ofString "there") = Str.ofString "in" := by decide
theorem m9_there_ends : ¬ (Str.ofString "there") = Str.ofString "ends" := by decide
theorem m9_there_rows : ¬ (Str.ofString "there") = Str.ofString "rows" := by decide
theorem m9_there_expected : ¬ (Str.ofString "there") = Str.ofString "expected" := by decide
theorem m9_there_owed : ¬ (Str.ofString "there") = Str.ofString "owed" := by decide
theorem m9_expected_out : ¬ (Str.ofString "expected") = Str.ofString "out" := by decide
theorem m9_expected_words : ¬ (Str.ofString "expected") = Str.ofString "words" := by decide
theorem m9_expected_heap : ¬ (Str.ofString "expected") = Str.ofString "heap" := by decide
theorem m9_expected_in : ¬ (Str.ofString "expected") = Str.ofString "in" := by decide
theorem m9_expected_ends : ¬ (Str.ofString "expected") = Str.ofString "ends" := by decide
theorem m9_expected_rows : ¬ (Str.ofString "expected") = Str.ofString "rows" := by decide
theorem m9_expected_there : ¬ (Str.ofString "expected") = Str.ofString "there" := by decide
theorem m9_expected_owed : ¬ (Str.ofString "expected") = Str.ofString "owed" := by decide
theorem m9_owed_out : ¬ (Str.ofString "owed") = Str.ofString "out" := by decide
theorem m9_owed_words : ¬ (Str.ofString "owed") = Str.ofString "words" := by decide
theorem m9_owed_heap : ¬ (Str.ofString "owed") = Str.ofString "heap" := by decide
theorem m9_owed_in : ¬ (Str.ofString "owed") = Str.ofString "in" := by decide
theorem m9_owed_ends : ¬ (Str.ofString "owed") = Str.ofString "ends" := by decide
theorem m9_owed_rows : ¬ (Str.ofString "owed") = Str.ofString "rows" := by decide
theorem m9_owed_there : ¬ (Str.ofString "owed") = Str.ofString "there" := by decide
theorem m9_owed_expected : ¬ (Str.ofString "owed") = Str.ofString "expected" := by decide
theorem m9n_out_words : ¬ (Sum.inr "out" : Key) = .inr "words" := by decide
theorem m9n_out_heap : ¬ (Sum.inr "out" : Key) = .inr "heap" := by decide
theorem m9n_out_in : ¬ (Sum.inr "out" : Key) = .inr "in" := by decide
theorem m9n_out_ends : ¬ (Sum.inr "out" : Key) = .inr "ends" := by decide
theorem m9n_out_rows : ¬ (Sum.inr "out" : Key) = .inr "rows" := by decide
theorem m9n_out_there : ¬ (Sum.inr "out" : Key) = .inr "there" := by decide
theorem m9n_out_expected : ¬ (Sum.inr "out" : Key) = .inr "expected" := by decide
theorem m9n_out_owed : ¬ (Sum.inr "out" : Key) = .inr "owed" := by decide
theorem m9n_words_heap : ¬ (Sum.inr "words" : Key) = .inr "heap" := by decide
theorem m9n_words_in : ¬ (Sum.inr "words" : Key) = .inr "in" := by decide
theorem m9n_words_ends : ¬ (Sum.inr "words" : Key) = .inr "ends" := by decide
theorem m9n_words_rows : ¬ (Sum.inr "words" : Key) = .inr "rows" := by decide
theorem m9n_words_there : ¬ (Sum.inr "words" : Key) = .inr "there" := by decide
theorem m9n_words_expected : ¬ (Sum.inr "words" : Key) = .inr "expected" := by decide
theorem m9n_words_owed : ¬ (Sum.inr "words" : Key) = .inr "owed" := by decide
theorem m9n_heap_in : ¬ (Sum.inr "heap" : Key) = .inr "in" := by decide
theorem m9n_heap_ends : ¬ (Sum.inr "heap" : Key) = .inr "ends" := by decide
theorem m9n_heap_rows : ¬ (Sum.inr "heap" : Key) = .inr "rows" := by decide
theorem m9n_heap_there : ¬ (Sum.inr "heap" : Key) = .inr "there" := by decide
theorem m9n_heap_expected : ¬ (Sum.inr "heap" : Key) = .inr "expected" := by decide
theorem m9n_heap_owed : ¬ (Sum.inr "heap" : Key) = .inr "owed" := by decide
theorem m9n_in_ends : ¬ (Sum.inr "in" : Key) = .inr "ends" := by decide
theorem m9n_in_rows : ¬ (Sum.inr "in" : Key) = .inr "rows" := by decide
theorem m9n_in_there : ¬ (Sum.inr "in" : Key) = .inr "there" := by decide
theorem m9n_in_expected : ¬ (Sum.inr "in" : Key) = .inr "expected" := by decide
theorem m9n_in_owed : ¬ (Sum.inr "in" : Key) = .inr "owed" := by decide
theorem m9n_ends_rows : ¬ (Sum.inr "ends" : Key) = .inr "rows" := by decide
theorem m9n_ends_there : ¬ (Sum.inr "ends" : Key) = .inr "there" := by decide
theorem m9n_ends_expected : ¬ (Sum.inr "ends" : Key) = .inr "expected" := by decide
theorem m9n_ends_owed : ¬ (Sum.inr "ends" : Key) = .inr "owed" := by decide
theorem m9n_rows_there : ¬ (Sum.inr "rows" : Key) = .inr "there" := by decide
theorem m9n_rows_expected : ¬ (Sum.inr "rows" : Key) = .inr "expected" := by decide
theorem m9n_rows_owed : ¬ (Sum.inr "rows" : Key) = .inr "owed" := by decide
theorem m9n_there_expected : ¬ (Sum.inr "there" : Key) = .inr "expected" := by decide
theorem m9n_there_owed : ¬ (Sum.inr "there" : Key) = .inr "owed" := by decide
theorem m9n_expected_owed : ¬ (Sum.inr "expected" : Key) = .inr "owed" := by decide
theorem m9g_out (hd : H d = some (.dK (m9T o10 w11 h12 i13 e14 r15 t16 e17 o18))) : DGet H d (.str "out") (some o10) := by
  have g := DGet.k (k := .inr "out") hd
  rwa [valV_pos rfl] at g
theorem m9g_words (hd : H d = some (.dK (m9T o10 w11 h12 i13 e14 r15 t16 e17 o18))) : DGet H d (.str "words") (some w11) := by
  have g := DGet.k (k := .inr "words") hd
  rwa [valV_neg m9n_out_words, valV_pos rfl] at g
theorem m9g_heap (hd : H d = some (.dK (m9T o10 w11 h12 i13 e14 r15 t16 e17 o18))) : DGet H d (.str "heap") (some h12) := by
  have g := DGet.k (k := .inr "heap") hd
  rwa [valV_neg m9n_out_heap, valV_neg m9n_words_heap, valV_pos rfl] at g
theorem m9g_in (hd : H d = some (.dK (m9T o10 w11 h12 i13 e14 r15 t16 e17 o18))) : DGet H d (.str "in") (some i13) := by
  have g := DGet.k (k := .inr "in") hd
  rwa [valV_neg m9n_out_in, valV_neg m9n_words_in, valV_neg m9n_heap_in, valV_pos rfl] at g
theorem m9g_ends (hd : H d = some (.dK (m9T o10 w11 h12 i13 e14 r15 t16 e17 o18))) : DGet H d (.str "ends") (some e14) := by
  have g := DGet.k (k := .inr "ends") hd
  rwa [valV_neg m9n_out_ends, valV_neg m9n_words_ends, valV_neg m9n_heap_ends, valV_neg m9n_in_ends, valV_pos rfl] at g
theorem m9g_rows (hd : H d = some (.dK (m9T o10 w11 h12 i13 e14 r15 t16 e17 o18))) : DGet H d (.str "rows") (some r15) := by
  have g := DGet.k (k := .inr "rows") hd
  rwa [valV_neg m9n_out_rows, valV_neg m9n_words_rows, valV_neg m9n_heap_rows, valV_neg m9n_in_rows, valV_neg m9n_ends_rows, valV_pos rfl] at g
theorem m9g_there (hd : H d = some (.dK (m9T o10 w11 h12 i13 e14 r15 t16 e17 o18))) : DGet H d (.str "there") (some t16) := by
  have g := DGet.k (k := .inr "there") hd
  rwa [valV_neg m9n_out_there, valV_neg m9n_words_there, valV_neg m9n_heap_there, valV_neg m9n_in_there, valV_neg m9n_ends_there, valV_neg m9n_rows_there, valV_pos rfl] at g
theorem m9g_expected (hd : H d = some (.dK (m9T o10 w11 h12 i13 e14 r15 t16 e17 o18))) : DGet H d (.str "expected") (some e17) := by
  have g := DGet.k (k := .inr "expected") hd
  rwa [valV_neg m9n_out_expected, valV_neg m9n_words_expected, valV_neg m9n_heap_expected, valV_neg m9n_in_expected, valV_neg m9n_ends_expected, valV_neg m9n_rows_expected, valV_neg m9n_there_expected, valV_pos rfl] at g
theorem m9g_owed (hd : H d = some (.dK (m9T o10 w11 h12 i13 e14 r15 t16 e17 o18))) : DGet H d (.str "owed") (some o18) := by
  have g := DGet.k (k := .inr "owed") hd
  rwa [valV_neg m9n_out_owed, valV_neg m9n_words_owed, valV_neg m9n_heap_owed, valV_neg m9n_in_owed, valV_neg m9n_ends_owed, valV_neg m9n_rows_owed, valV_neg m9n_there_owed, valV_neg m9n_expected_owed, valV_pos rfl] at g
theorem m9p_out (hd : H d = some (.dK (m9T o10 w11 h12 i13 e14 r15 t16 e17 o18))) : DPut H d (.str "out") v (upd H d (.dK (m9T v w11 h12 i13 e14 r15 t16 e17 o18))) := by
  have g := DPut.k (k := .inr "out") (v := v) hd (by show 9 < sizeLine; decide)
  have ep : putK (m9T o10 w11 h12 i13 e14 r15 t16 e17 o18) (.inr "out") v = m9T v w11 h12 i13 e14 r15 t16 e17 o18 := by
    unfold putK
    rw [valV_any, valV_pos rfl]
    simp [m9_words_out, m9_heap_out, m9_in_out, m9_ends_out, m9_rows_out, m9_there_out, m9_expected_out, m9_owed_out]
  rwa [ep] at g
theorem m9p_words (hd : H d = some (.dK (m9T o10 w11 h12 i13 e14 r15 t16 e17 o18))) : DPut H d (.str "words") v (upd H d (.dK (m9T o10 v h12 i13 e14 r15 t16 e17 o18))) := by
  have g := DPut.k (k := .inr "words") (v := v) hd (by show 9 < sizeLine; decide)
  have ep : putK (m9T o10 w11 h12 i13 e14 r15 t16 e17 o18) (.inr "words") v = m9T o10 v h12 i13 e14 r15 t16 e17 o18 := by
    unfold putK
    rw [valV_any, valV_neg m9n_out_words, valV_pos rfl]
    simp [m9_out_words, m9_heap_words, m9_in_words, m9_ends_words, m9_rows_words, m9_there_words, m9_expected_words, m9_owed_words]
  rwa [ep] at g
theorem m9p_heap (hd : H d = some (.dK (m9T o10 w11 h12 i13 e14 r15 t16 e17 o18))) : DPut H d (.str "heap") v (upd H d (.dK (m9T o10 w11 v i13 e14 r15 t16 e17 o18))) := by
  have g := DPut.k (k := .inr "heap") (v := v) hd (by show 9 < sizeLine; decide)
  have ep : putK (m9T o10 w11 h12 i13 e14 r15 t16 e17 o18) (.inr "heap") v = m9T o10 w11 v i13 e14 r15 t16 e17 o18 := by
    unfold putK
    rw [valV_any, valV_neg m9n_out_heap, valV_neg m9n_words_heap, valV_pos rfl]
    simp [m9_out_heap, m9_words_heap, m9_in_heap, m9_ends_heap, m9_rows_heap, m9_there_heap, m9_expected_heap, m9_owed_heap]
  rwa [ep] at g
theorem m9p_in (hd : H d = some (.dK (m9T o10 w11 h12 i13 e14 r15 t16 e17 o18))) : DPut H d (.str "in") v (upd H d (.dK (m9T o10 w11 h12 v e14 r15 t16 e17 o18))) := by
  have g := DPut.k (k := .inr "in") (v := v) hd (by show 9 < sizeLine; decide)
  have ep : putK (m9T o10 w11 h12 i13 e14 r15 t16 e17 o18) (.inr "in") v = m9T o10 w11 h12 v e14 r15 t16 e17 o18 := by
    unfold putK
    rw [valV_any, valV_neg m9n_out_in, valV_neg m9n_words_in, valV_neg m9n_heap_in, valV_pos rfl]
    simp [m9_out_in, m9_words_in, m9_heap_in, m9_ends_in, m9_rows_in, m9_there_in, m9_expected_in, m9_owed_in]
  rwa [ep] at g
theorem m9p_ends (hd : H d = some (.dK (m9T o10 w11 h12 i13 e14 r15 t16 e17 o18))) : DPut H d (.str "ends") v (upd H d (.dK (m9T o10 w11 h12 i13 v r15 t16 e17 o18))) := by
  have g := DPut.k (k := .inr "ends") (v := v) hd (by show 9 < sizeLine; decide)
  have ep : putK (m9T o10 w11 h12 i13 e14 r15 t16 e17 o18) (.inr "ends") v = m9T o10 w11 h12 i13 v r15 t16 e17 o18 := by
    unfold putK
    rw [valV_any, valV_neg m9n_out_ends, valV_neg m9n_words_ends, valV_neg m9n_heap_ends, valV_neg m9n_in_ends, valV_pos rfl]
    simp [m9_out_ends, m9_words_ends, m9_heap_ends, m9_in_ends, m9_rows_ends, m9_there_ends, m9_expected_ends, m9_owed_ends]
  rwa [ep] at g
theorem m9p_rows (hd : H d = some (.dK (m9T o10 w11 h12 i13 e14 r15 t16 e17 o18))) : DPut H d (.str "rows") v (upd H d (.dK (m9T o10 w11 h12 i13 e14 v t16 e17 o18))) := by
  have g := DPut.k (k := .inr "rows") (v := v) hd (by show 9 < sizeLine; decide)
  have ep : putK (m9T o10 w11 h12 i13 e14 r15 t16 e17 o18) (.inr "rows") v = m9T o10 w11 h12 i13 e14 v t16 e17 o18 := by
    unfold putK
    rw [valV_any, valV_neg m9n_out_rows, valV_neg m9n_words_rows, valV_neg m9n_heap_rows, valV_neg m9n_in_rows, valV_neg m9n_ends_rows, valV_pos rfl]
    simp [m9_out_rows, m9_words_rows, m9_heap_rows, m9_in_rows, m9_ends_rows, m9_there_rows, m9_expected_rows, m9_owed_rows]
  rwa [ep] at g
theorem m9p_there (hd : H d = some (.dK (m9T o10 w11 h12 i13 e14 r15 t16 e17 o18))) : DPut H d (.str "there") v (upd H d (.dK (m9T o10 w11 h12 i13 e14 r15 v e17 o18))) := by
  have g := DPut.k (k := .inr "there") (v := v) hd (by show 9 < sizeLine; decide)
  have ep : putK (m9T o10 w11 h12 i13 e14 r15 t16 e17 o18) (.inr "there") v = m9T o10 w11 h12 i13 e14 r15 v e17 o18 := by
    unfold putK
    rw [valV_any, valV_neg m9n_out_there, valV_neg m9n_words_there, valV_neg m9n_heap_there, valV_neg m9n_in_there, valV_neg m9n_ends_there, valV_neg m9n_rows_there, valV_pos rfl]
    simp [m9_out_there, m9_words_there, m9_heap_there, m9_in_there, m9_ends_there, m9_rows_there, m9_expected_there, m9_owed_there]
  rwa [ep] at g
theorem m9p_expected (hd : H d = some (.dK (m9T o10 w11 h12 i13 e14 r15 t16 e17 o18))) : DPut H d (.str "expected") v (upd H d (.dK (m9T o10 w11 h12 i13 e14 r15 t16 v o18))) := by
  have g := DPut.k (k := .inr "expected") (v := v) hd (by show 9 < sizeLine; decide)
  have ep : putK (m9T o10 w11 h12 i13 e14 r15 t16 e17 o18) (.inr "expected") v = m9T o10 w11 h12 i13 e14 r15 t16 v o18 := by
    unfold putK
    rw [valV_any, valV_neg m9n_out_expected, valV_neg m9n_words_expected, valV_neg m9n_heap_expected, valV_neg m9n_in_expected, valV_neg m9n_ends_expected, valV_neg m9n_rows_expected, valV_neg m9n_there_expected, valV_pos rfl]
    simp [m9_out_expected, m9_words_expected, m9_heap_expected, m9_in_expected, m9_ends_expected, m9_rows_expected, m9_there_expected, m9_owed_expected]
  rwa [ep] at g
theorem m9p_owed (hd : H d = some (.dK (m9T o10 w11 h12 i13 e14 r15 t16 e17 o18))) : DPut H d (.str "owed") v (upd H d (.dK (m9T o10 w11 h12 i13 e14 r15 t16 e17 v))) := by
  have g := DPut.k (k := .inr "owed") (v := v) hd (by show 9 < sizeLine; decide)
  have ep : putK (m9T o10 w11 h12 i13 e14 r15 t16 e17 o18) (.inr "owed") v = m9T o10 w11 h12 i13 e14 r15 t16 e17 v := by
    unfold putK
    rw [valV_any, valV_neg m9n_out_owed, valV_neg m9n_words_owed, valV_neg m9n_heap_owed, valV_neg m9n_in_owed, valV_neg m9n_ends_owed, valV_neg m9n_rows_owed, valV_neg m9n_there_owed, valV_neg m9n_expected_owed, valV_pos rfl]
    simp [m9_out_owed, m9_words_owed, m9_heap_owed, m9_in_owed, m9_ends_owed, m9_rows_owed, m9_there_owed, m9_expected_owed]
  rwa [ep] at g
theorem m9T_merge : mergeK [] (m9T o10 w11 h12 i13 e14 r15 t16 e17 o18) = m9T o10 w11 h12 i13 e14 r15 t16 e17 o18 := by
  unfold mergeK
  simp [putK, m9_out_words, m9_out_heap, m9_out_in, m9_out_ends, m9_out_rows, m9_out_there, m9_out_expected, m9_out_owed, m9_words_out, m9_words_heap, m9_words_in, m9_words_ends, m9_words_rows, m9_words_there, m9_words_expected, m9_words_owed, m9_heap_out, m9_heap_words, m9_heap_in, m9_heap_ends, m9_heap_rows, m9_heap_there, m9_heap_expected, m9_heap_owed, m9_in_out, m9_in_words, m9_in_heap, m9_in_ends, m9_in_rows, m9_in_there, m9_in_expected, m9_in_owed, m9_ends_out, m9_ends_words, m9_ends_heap, m9_ends_in, m9_ends_rows, m9_ends_there, m9_ends_expected, m9_ends_owed, m9_rows_out, m9_rows_words, m9_rows_heap, m9_rows_in, m9_rows_ends, m9_rows_there, m9_rows_expected, m9_rows_owed, m9_there_out, m9_there_words, m9_there_heap, m9_there_in, m9_there_ends, m9_there_rows, m9_there_expected, m9_there_owed, m9_expected_out, m9_expected_words, m9_expected_heap, m9_expected_in, m9_expected_ends, m9_expected_rows, m9_expected_there, m9_expected_owed, m9_owed_out, m9_owed_words, m9_owed_heap, m9_owed_in, m9_owed_ends, m9_owed_rows, m9_owed_there, m9_owed_expected]
end

section
variable {a b c d e f g h v : L2.V} {H : Hp} {p : Addr}
abbrev m7T (a b c d e f g : L2.V) : List (Key × L2.V) := m6T a b c d e f ++ [(.inr "there", g)]
abbrev m8T (a b c d e f g h : L2.V) : List (Key × L2.V) := m7T a b c d e f g ++ [(.inr "expected", h)]
theorem m7p (hd : H p = some (.dK (m6T a b c d e f))) : DPut H p (.str "there") v (upd H p (.dK (m7T a b c d e f v))) := by
  have g := DPut.k (k := .inr "there") (v := v) hd (by show 6 < sizeLine; decide)
  have ep : putK (m6T a b c d e f) (.inr "there") v = m7T a b c d e f v := by
    unfold putK
    rw [valV_any, valV_neg m9n_out_there, valV_neg m9n_words_there, valV_neg m9n_heap_there, valV_neg m9n_in_there, valV_neg m9n_ends_there, valV_neg m9n_rows_there]
    rfl
  rwa [ep] at g
theorem m8p (hd : H p = some (.dK (m7T a b c d e f g))) : DPut H p (.str "expected") v (upd H p (.dK (m8T a b c d e f g v))) := by
  have g' := DPut.k (k := .inr "expected") (v := v) hd (by show 7 < sizeLine; decide)
  have ep : putK (m7T a b c d e f g) (.inr "expected") v = m8T a b c d e f g v := by
    unfold putK
    show (if (List.any [_, _, _, _, _, _, _] _) = true then _ else _) = _
    rw [valV_any, valV_neg m9n_out_expected, valV_neg m9n_words_expected, valV_neg m9n_heap_expected, valV_neg m9n_in_expected, valV_neg m9n_ends_expected, valV_neg m9n_rows_expected, valV_neg m9n_there_expected]
    rfl
  rwa [ep] at g'
theorem m9pn (hd : H p = some (.dK (m8T a b c d e f g h))) : DPut H p (.str "owed") v (upd H p (.dK (m9T a b c d e f g h v))) := by
  have g' := DPut.k (k := .inr "owed") (v := v) hd (by show 8 < sizeLine; decide)
  have ep : putK (m8T a b c d e f g h) (.inr "owed") v = m9T a b c d e f g h v := by
    unfold putK
    show (if (List.any [_, _, _, _, _, _, _, _] _) = true then _ else _) = _
    rw [valV_any, valV_neg m9n_out_owed, valV_neg m9n_words_owed, valV_neg m9n_heap_owed, valV_neg m9n_in_owed, valV_neg m9n_ends_owed, valV_neg m9n_rows_owed, valV_neg m9n_there_owed, valV_neg m9n_expected_owed]
    rfl
  rwa [ep] at g'
end
structure MD3 where
  m : Addr
  lw : Addr
  lh : Addr
  li : Addr
  le : Addr
  lr : Addr
  dt : Addr
  ex : Nat
  ow : Bool
abbrev mD3 (M : MD3) (d : Addr) : List (Key × L2.V) := m9T (.ref d) (.ref M.lw) (.ref M.lh) (.ref M.li) (.ref M.le) (.ref M.lr) (.ref M.dt) (.int (M.ex : Int)) (.bl M.ow)
abbrev mTs3 (M : MD3) (d : Addr) (rs : List (Addr × List Int)) (qs : List QT) (th : List Nat) : List Th := [tO M.m (.dK (mD3 M d)), tL M.li (refsQ qs), tL M.le ((endsL (rs.map fun r => r.2)).map L2.V.int), tL M.lr (refsR rs), tO M.dt (.dK (thD th))]
abbrev tM3 (M : MD3) (D : SD) (rs : List (Addr × List Int)) (qs : List QT) (th : List Nat) : Th := tG (mTs3 M D.d rs qs th ++ sdTs D)
def spBNew (K : PySem.W.Frag) : Sp := fun vs H Q _ => ∃ (b : Addr × Addr), vs = [.ref b.1] ∧ Bag b H ∧ ∀ (H' : Hp) (M : MD3) (d lp lo : Addr) (rs : List (Addr × List Int)) (qs : List QT), M.ex = 0 → M.ow = false → QsOk (rs.map fun r => r.2) qs → (∀ r ∈ rs, Bytes r.2 ∧ r.2.length ≤ 60) → rs.length ≤ 4 → qs.length ≤ 80 → TF K (knQ qs) H' →
  Up (tG [tB b]) (tB b :: tG (rs.map fR) :: tG (qs.map fQ) :: (mTs3 M d rs qs [] ++ sdTs ⟨d, lp, lo, [], 0, 0, []⟩)) H H' → Q (.ref M.m) H'
def spBTook (K : PySem.W.Frag) : Sp := fun vs H Q _ => ∃ (M : MD3) (D : SD) (rs : List (Addr × List Int)) (qs : List QT) (th th1 : List Nat) (atn p0 j j' : Nat) (z : Int), vs = [.ref M.m, .int (atn : Int), .int z] ∧ (tM3 M D rs qs th).P H ∧ D.ord.length ≤ 1000 ∧ th.length ≤ 1000 ∧ rs.length ≤ 1000 ∧ (M.ex ≤ atn → putK (thD th) (.inl (atn : Int)) (.bl true) = thD th1) ∧ (¬ M.ex ≤ atn → th1 = th) ∧ M.ex ≤ p0 ∧ (∀ k, M.ex ≤ k → k < p0 → k ∈ th1) ∧ ¬ p0 ∈ th1 ∧ j ≤ j' ∧ j' ≤ rs.length ∧
  (∀ i, i < rs.length → ((M.ex < endN (rs.map fun r => r.2) (i + 1) ∧ endN (rs.map fun r => r.2) (i + 1) ≤ p0) ↔ (j ≤ i ∧ i < j'))) ∧
  ∀ (H' : Hp) (o lo' : Addr), Up (tM3 M D rs qs th) (tL o (refsR ((rs.drop j).take (j' - j))) :: (mTs3 { M with ex := p0, ow := true } D.d rs qs th1 ++ sdTs { sdAns D z with lo := lo' })) H H' → Q (.ref o) H'
def spBFrame (K : PySem.W.Frag) : Sp := fun vs H Q _ => ∃ (M : MD3) (D : SD) (rs : List (Addr × List Int)) (qs : List QT) (th : List Nat), vs = [.ref M.m] ∧ (tM3 M D rs qs th).P H ∧ D.ord.length ≤ 1000 ∧ D.base ≤ D.sent ∧ D.sent ≤ D.ps.length ∧ (∀ x ∈ D.ord, x < D.ps.length) ∧ QcOk K (tM3 M D rs qs th).ft D.ps H ∧
  (∀ D' x p, sdMove D = some (D', x) → D.ps[x]? = some p → ∀ (H' : Hp) (o lo' : Addr), Up (tM3 M D rs qs th) (tL o ((headL ((x : Int) % 8) ((M.ex : Int) % 8) 1 p.last ++ p.bits).map L2.V.int) :: (mTs3 { M with ow := false } D'.d rs qs th ++ sdTs { D' with lo := lo' })) H H' → Q (.ref o) H') ∧
  (sdMove D = none → M.ow = true → ∀ (H' : Hp) (o : Addr), Up (tM3 M D rs qs th) (tL o ((headL 0 ((M.ex : Int) % 8) 0 0).map L2.V.int) :: (mTs3 { M with ow := false } D.d rs qs th ++ sdTs D)) H H' → Q (.ref o) H') ∧
  (sdMove D = none → M.ow = false → ∀ (H' : Hp), Up (tM3 M D rs qs th) (mTs3 { M with ow := false } D.d rs qs th ++ sdTs D) H H' → Q .non H')
theorem QcOk.sub {K : PySem.W.Frag} {F G : List Addr} {ps : List QT} {H : Hp} (h : QcOk K F ps H) (s : ∀ a ∈ G, a ∈ F) : QcOk K G ps H := fun p hp => by
  obtain ⟨a, b, c, d⟩ := h p hp
  exact ⟨a, b, fun z => c (s _ z), d⟩
theorem QcOk.same {K : PySem.W.Frag} {F : List Addr} {ps : List QT} {H H' : Hp} (h : QcOk K F ps H) (s : Same H H') : QcOk K F ps H' := fun p hp => by
  obtain ⟨a, b, c, d⟩ := h p hp
  exact ⟨same_t s a, s _ _ b, c, d⟩
/-! ### mouths and the law's dicts together -/
section
variable {K : PySem.W.Frag} {L : List (Addr × List L2.V)} {T0 : List (Addr × Str)} {Ts Us Vs Ns As As' Bs Bs' : List Th} {T : Th} {H H' : Hp}
theorem Up.perm (u : Up T Us H H') (p : Us.Perm Vs) : Up T Vs H H' := ⟨u.mv, u.nt, u.hs.perm p, fun x hx a ha => u.ow x (p.mem_iff.mpr hx) a ha⟩
theorem Up.grpB (u : Up T (Ns ++ Bs) H H') : Up T (Ns ++ [tG Bs]) H H' := by
  refine ⟨u.mv, u.nt, ?_, ?_⟩
  · have h1 : Hs [] (Bs ++ Ns) H' := u.hs.perm List.perm_append_comm
    have h2 : Hs [] (tG Bs :: Ns) H' := h1.group
    exact h2.perm (by rw [← List.singleton_append]; exact List.perm_append_comm)
  · intro x hx a ha
    rcases List.mem_append.mp hx with z | z
    · exact u.ow x (List.mem_append_left _ z) a ha
    · rw [List.mem_singleton.mp z] at ha
      obtain ⟨y, hy, ha⟩ := flat_ft ha
      exact u.ow y (List.mem_append_right _ hy) a ha
theorem up_part (h : (tG (As ++ Bs)).P H) (u : Up (tG As) (Ns ++ As') H H') : Up (tG (As ++ Bs)) (Ns ++ [tG (As' ++ Bs)]) H H' := by
  have R : Rn default H (tG (As ++ Bs)).ft [] (As ++ Bs) H := Rn.start h
  have R2 := R.grp.up 0 rfl u
  have e : (Ns ++ As') ++ [Bs].flatten = Ns ++ (As' ++ Bs) := by rw [List.append_assoc]; simp
  have R3 : Up (tG (As ++ Bs)) (Ns ++ (As' ++ Bs)) H H' := by
    rw [← List.append_assoc]
    exact R2.out
  exact R3.grpB
theorem up_part2 (h : (tG (As ++ Bs)).P H) (u : Up (tG Bs) (Ns ++ Bs') H H') : Up (tG (As ++ Bs)) (Ns ++ [tG (As ++ Bs')]) H H' := by
  have h0 : Hs [] (As ++ Bs) H := h
  have h1 : Hs [] (Bs ++ As) H := h0.perm List.perm_append_comm
  have R : Rn default H (tG (As ++ Bs)).ft [] (Bs ++ As) H := by
    refine ⟨.of h1, .refl _ _, fun _ _ e _ => e, fun x hx a ha => .inl (List.mem_flatMap.mpr ⟨x, ?_, ha⟩)⟩
    rcases List.mem_append.mp hx with z | z
    · exact List.mem_append_right _ z
    · exact List.mem_append_left _ z
  have R2 := R.grp.up 0 rfl u
  have R3 : Up (tG (As ++ Bs)) ((Ns ++ Bs') ++ As) H H' := R2.out
  rw [List.append_assoc] at R3
  have R4 : Up (tG (As ++ Bs)) (Ns ++ (As ++ Bs')) H H' := R3.perm (List.Perm.append_left Ns List.perm_append_comm)
  exact R4.grpB
/-- one of a group changed -/
theorem Hw.gup {α : Type} {f : α → Th} {Y : List α} {y y' : α} {i j : Nat} (h : Hw K L T0 Ts H) (hi : Ts[i]? = some (tG (Y.map f))) (hj : Y[j]? = some y) (Ns : List Th) (u : Up (f y) (Ns ++ [f y']) H H') : Hw K L T0 (tG ((Y.set j y').map f) :: (Ns ++ Ts.eraseIdx i)) H' := by
  have hfj : (Y.map f)[j]? = some (f y) := by rw [List.getElem?_map, hj]; rfl
  have h1 : Hw K L T0 (Y.map f ++ Ts.eraseIdx i) H := (h.frontI i hi).ungrp
  have hlt : j < (Y.map f).length := (List.getElem?_eq_some_iff.mp hfj).1
  have h2 := h1.up j (by rw [List.getElem?_append_left hlt]; exact hfj) u
  have hfs : ((Y.map f).set j (f y'))[j]? = some (f y') := by rw [List.getElem?_set, if_pos rfl, if_pos hlt]
  have es : (Y.set j y').map f = (Y.map f).set j (f y') := List.map_set ..
  have pm : (Ns ++ [f y'] ++ (Y.map f ++ Ts.eraseIdx i).eraseIdx j).Perm ((Y.set j y').map f ++ (Ns ++ Ts.eraseIdx i)) := by
    rw [es, List.eraseIdx_append_of_lt_length hlt]
    have p1 : ((Y.map f).set j (f y')).Perm (f y' :: (Y.map f).eraseIdx j) := by
      have := (perm_at hfs).symm
      rwa [List.eraseIdx_set_eq] at this
    have p2 : (Ns ++ [f y'] ++ ((Y.map f).eraseIdx j ++ Ts.eraseIdx i)).Perm ((f y' :: (Y.map f).eraseIdx j) ++ (Ns ++ Ts.eraseIdx i)) := by
      rw [List.append_assoc, List.singleton_append, List.cons_append]
      refine List.perm_middle.trans (List.Perm.cons _ ?_)
      rw [← List.append_assoc, ← List.append_assoc]
      exact List.Perm.append_right _ List.perm_append_comm
    exact p2.trans (List.Perm.append_right _ p1.symm)
  exact Hw.grp ⟨h2.hs.perm pm, h2.tf⟩
end
theorem hs_right {Bs : List Th} {H : Hp} : ∀ {As : List Th}, Hs [] (As ++ Bs) H → Hs [] Bs H
  | [], h => h
  | _ :: As, h => hs_right (As := As) h.tail
theorem hs_left {As Bs : List Th} {H : Hp} (h : Hs [] (As ++ Bs) H) : Hs [] As H := hs_right (h.perm List.perm_append_comm)
/-! ### payloads or none -/
def oTs : Option (List Int) → L2.V → List Th
  | some ns, .ref p => [tL p (ns.map L2.V.int)]
  | _, _ => []
def OV (o : Option (List Int)) (v : L2.V) : Prop := match o with
  | none => v = .non
  | some _ => ∃ p : Addr, v = .ref p
def dO : Option (List Int) → PyData
  | none => .none
  | some ns => dI ns
theorem dp_o {K : PySem.W.Frag} {H : Hp} {o : Option (List Int)} {v : L2.V} (h : OV o v) (g : (tG (oTs o v)).P H) : Dp K H v (dO o) := by
  cases o with
  | none =>
    obtain rfl : v = .non := h
    exact .non
  | some ns =>
    obtain ⟨p, rfl⟩ := h
    have g : Hs [] [tL p (ns.map L2.V.int)] H := g
    exact dp_ints (SqL.of (g.at 0 rfl))
theorem dn_o {o : Option (List Int)} (h : ∀ ns, o = some ns → ns.length ≤ 1000) (n : Nat) : Dn (n + 2) (dO o) := by
  cases o with
  | none => exact .inr (.inr (.inr (.inl rfl)))
  | some ns => exact dn_intsR ns (by have := h ns rfl; omega) n
theorem shaped_o (o : Option (List Int)) : SeqAt.shaped (dO o) = true := by
  cases o with
  | none => rfl
  | some ns => exact shaped_ints ns
/-- the next payload of a link -/
def FrR (S : LkS) (q' s' : List PT) (o : Option (List Int)) : Prop := (∃ (s0 : List PT) (x : PT), frMove S.queue S.sent = some (q', s0, x) ∧ s' = s0 ++ [x] ∧ o = some (headL ((x.place : Int) % 8) ((S.place : Int) % 8) 1 x.last ++ x.bits)) ∨ (frMove S.queue S.sent = none ∧ q' = S.queue ∧ s' = S.sent ∧ o = if S.owes = true then some (headL 0 ((S.place : Int) % 8) 0 0) else none)
def FmR (D : SD) (ex : Nat) (ow : Bool) (D' : SD) (o : Option (List Int)) : Prop := (∃ (x : Nat) (p : QT), sdMove D = some (D', x) ∧ D.ps[x]? = some p ∧ o = some (headL ((x : Int) % 8) ((ex : Int) % 8) 1 p.last ++ p.bits)) ∨ (sdMove D = none ∧ D' = D ∧ o = if ow = true then some (headL 0 ((ex : Int) % 8) 0 0) else none)
theorem FrR.sub {S : LkS} {q' s' : List PT} {o : Option (List Int)} (h : FrR S q' s' o) : (∀ p ∈ q' ++ s', p ∈ S.queue ++ S.sent) ∧ s'.length ≤ S.sent.length + 1 := by
  rcases h with ⟨s0, x, em, rfl, _⟩ | ⟨_, rfl, rfl, _⟩
  · unfold frMove at em
    split at em
    · rename_i x0 q0 s1 e1
      split at em
      · cases em
        rw [e1, List.length_append]
        exact ⟨fun p hp => by simp only [List.mem_append, List.mem_cons, List.mem_singleton, List.not_mem_nil, or_false] at hp ⊢; rcases hp with h | h | h <;> simp [h], Nat.le_refl _⟩
      · split at em
        · rename_i y s2 e2
          cases em
          rw [e1, e2]
          exact ⟨fun p hp => by simp only [List.mem_append, List.mem_cons, List.mem_singleton, List.not_mem_nil, or_false] at hp ⊢; rcases hp with (h | h) | h | h <;> simp [h], by rw [List.length_append, List.length_cons]; show _ + 1 ≤ _ + 1 + 1; omega⟩
        · cases em
    · rename_i y s2 e1 e2
      cases em
      rw [e1, e2]
      exact ⟨fun p hp => by simp only [List.mem_append, List.mem_cons, List.mem_singleton, List.not_mem_nil, or_false, false_or, List.nil_append] at hp ⊢; rcases hp with h | h <;> simp [h], by rw [List.length_append, List.length_cons]; show _ + 1 ≤ _ + 1 + 1; omega⟩
    · cases em
  · exact ⟨fun p hp => hp, Nat.le_succ _⟩
theorem G42.step {S : LkS} {D D' : SD} {P : List WP} {hl ex : Nat} {ow : Bool} {q' s' : List PT} {o o2 : Option (List Int)} (h : G42 S D P hl) (f : FrR S q' s' o) (g : FmR D ex ow D' o2) (e1 : ex = S.place) (e2 : ow = S.owes) : o2 = o ∧ D'.d = D.d ∧ D'.lp = D.lp ∧ D'.ps = D.ps ∧ (∀ ns, o = some ns → ns.length ≤ 1000) ∧ ∀ lo', G42 { S with queue := q', sent := s', owes := false } { D' with lo := lo' } P hl := by
  subst e1 e2
  rcases h.frame with ⟨em, en⟩ | ⟨q1, s1, x, D1, pq, em, en, ep, el, eb, hsub, ed, elp, eps, w⟩
  · rcases f with ⟨s0, x, em2, _⟩ | ⟨_, rfl, rfl, eo⟩
    · rw [em] at em2
      cases em2
    · rcases g with ⟨x, p, en2, _⟩ | ⟨_, rfl, eo2⟩
      · rw [en] at en2
        cases en2
      · refine ⟨eo2.trans eo.symm, rfl, rfl, rfl, fun ns z => ?_, fun lo' => ⟨ls_mk h.ls.bs h.ls.sn h.ls.perm h.ls.ord h.ls.que h.few, h.pc, h.qp, h.cut, h.small, h.wsS, h.w61, h.plen, h.hl4⟩⟩
        rw [eo] at z
        split at z
        · cases z
          rw [headL_len]
          decide
        · cases z
  · rcases f with ⟨s0, x2, em2, rfl, eo⟩ | ⟨em2, _⟩
    · rw [em] at em2
      cases em2
      rcases g with ⟨x3, p, en2, ep2, eo2⟩ | ⟨en2, _⟩
      · rw [en] at en2
        cases en2
        rw [ep] at ep2
        cases ep2
        refine ⟨by rw [eo, eo2, el, eb], ed, elp, eps, fun ns z => ?_, w⟩
        rw [eo] at z
        cases z
        rw [List.length_append, headL_len, ← eb]
        have := h.small _ (List.mem_of_getElem? ep)
        omega
      · rw [en] at en2
        cases en2
    · rw [em] at em2
      cases em2
section
variable {P : Program} {w : World} {K : PySem.W.Frag} {mg : Str → Option Value} {base : Heap}
theorem frame_use {CB CI CL : Addr} {A : LA} {S : LkS} {H : Hp} {Q : VK} {E : XK} (hP : (tLk CB CI CL A S).P H) (hpc : PcOk K (tLk CB CI CL A S).ft (S.queue ++ S.sent) H) (hb : ∀ p ∈ S.queue ++ S.sent, p.bits.length ≤ 1000) (hs : S.sent.length ≤ 1000)
    (q : ∀ (H' : Hp) (v : L2.V) (q' s' : List PT) (o : Option (List Int)), FrR S q' s' o → OV o v → Up (tLk CB CI CL A S) (oTs o v ++ lkTs CB CI CL A { S with queue := q', sent := s', owes := false }) H H' → Q v H') : spFrame K CB CI CL [.ref A.r] H Q E :=
  ⟨A, S, rfl, hP, hpc, hb, hs, fun q' s' x em H' p u => q H' (.ref p) q' (s' ++ [x]) _ (.inl ⟨s', x, em, rfl, rfl⟩) ⟨p, rfl⟩ u, fun em eo H' p u => q H' (.ref p) S.queue S.sent (some (headL 0 ((S.place : Int) % 8) 0 0)) (.inr ⟨em, rfl, rfl, by rw [if_pos eo]⟩) ⟨p, rfl⟩ u, fun em eo => q H .non S.queue S.sent none (.inr ⟨em, rfl, rfl, by rw [eo]; rfl⟩) rfl (by
    have e : ({ S with queue := S.queue, sent := S.sent, owes := false } : LkS) = S := by
      rw [← eo]
    rw [e]
    have R : Rn K H (tLk CB CI CL A S).ft [] (lkTs CB CI CL A S) H := Rn.start hP
    exact R.out)⟩
theorem both_use {M : MD3} {D : SD} {rs : List (Addr × List Int)} {qs : List QT} {th : List Nat} {H : Hp} {Q : VK} {E : XK} (hP : (tM3 M D rs qs th).P H) (hol : D.ord.length ≤ 1000) (hbs : D.base ≤ D.sent) (hsn : D.sent ≤ D.ps.length) (hord : ∀ x ∈ D.ord, x < D.ps.length) (hqc : QcOk K (tM3 M D rs qs th).ft D.ps H)
    (q : ∀ (H' : Hp) (v : L2.V) (D' : SD) (lo' : Addr) (o : Option (List Int)), FmR D M.ex M.ow D' o → OV o v → Up (tM3 M D rs qs th) (oTs o v ++ (mTs3 { M with ow := false } D'.d rs qs th ++ sdTs { D' with lo := lo' })) H H' → Q v H') : spBFrame K [.ref M.m] H Q E :=
  ⟨M, D, rs, qs, th, rfl, hP, hol, hbs, hsn, hord, hqc, fun D' x p em ep H' o lo' u => q H' (.ref o) D' lo' _ (.inl ⟨x, p, em, ep, rfl⟩) ⟨o, rfl⟩ u, fun em eo H' o u => q H' (.ref o) D D.lo (some (headL 0 ((M.ex : Int) % 8) 0 0)) (.inr ⟨em, rfl, by rw [if_pos eo]⟩) ⟨o, rfl⟩ u, fun em eo H' u => q H' .non D D.lo none (.inr ⟨em, rfl, by rw [eo]; rfl⟩) rfl u⟩
end
abbrev Z73 (CB CI CL : Addr) (A : LA) (S : LkS) (D : SD) (M : MD3) (b : Addr × Addr) (lm lw lh : Addr) (ms : List Int) (P : List WP) (hs : List L2.V) (po : List PT) (rs : List (Addr × List Int)) (qs : List QT) (th : List Nat) (pl : List (Addr × List Int)) : List Th := hdTs b lm lw lh ms P hs ++ [tLk CB CI CL A S, tG (po.map fN), tG (D.ps.map fQ), tM3 M D rs qs th, tG (rs.map fR), tG (qs.map fQ), tG (pl.map fR)]
abbrev L73 (S : LkS) (D : SD) (P : List WP) (po : List PT) (qs : List QT) : List (Addr × List L2.V) := knW S.P ++ (knW P ++ (knP po ++ (knQ D.ps ++ (knW S.iP ++ (knK S.kept ++ knQ qs)))))
structure I73 (S : LkS) (D : SD) (M : MD3) (P : List WP) (hl : Nat) (po : List PT) (rs : List (Addr × List Int)) (qs : List QT) (th : List Nat) (pl : List (Addr × List Int)) (m : Nat) : Prop where
  g : G42 S D P hl
  po : ∀ p ∈ S.queue ++ S.sent, p ∈ po
  w : W43 (rs.map fun r => r.2) qs (wsOf S.iP) S.place S.kept S.begun th
  pl : ∀ x ∈ S.kept, (x.ba, x.bits) ∈ pl
  ex : M.ex = S.place
  ow : M.ow = S.owes
  tl : th.length ≤ m
  rl : rs.length ≤ 4
  ql : qs.length ≤ 80
def J73 (K : PySem.W.Frag) (CB CI CL a lm lw lh : Addr) (b : Addr × Addr) (ms : List Int) (m : Nat) (σ : L2.St) (H' : Hp) : Prop := ∃ (A : LA) (S : LkS) (D : SD) (M : MD3) (P : List WP) (hs : List L2.V) (po : List PT) (rs : List (Addr × List Int)) (qs : List QT) (th : List Nat) (pl : List (Addr × List Int)) (y7 y8 y9 y10 y11 y12 y13 : Option L2.V), σ = [some (.ref a), some (.ref b.1), some (.ref A.r), some (.ref M.m), some (.ref lw), some (.ref lm), some (.ref lh), y7, y8, y9, y10, y11, y12, y13] ∧
  Hw K (L73 S D P po qs) [] (Z73 CB CI CL A S D M b lm lw lh ms P hs po rs qs th pl) H' ∧ I73 S D M P hs.length po rs qs th pl m
theorem kb_ok7 {K : PySem.W.Frag} {L : List (Addr × List L2.V)} {T0 : List (Addr × Str)} {Ts : List Th} {T : Th} {S : LkS} {D : SD} {M : MD3} {P : List WP} {hl : Nat} {po : List PT} {rs : List (Addr × List Int)} {qs : List QT} {pl : List (Addr × List Int)} {th : List Nat} {m : Nat} {H : Hp} {i j : Nat} (I : I73 S D M P hl po rs qs th pl m) (h : Hw K L T0 Ts H) (hi : Ts[i]? = some (tG (pl.map fR))) (hj : Ts[j]? = some T) (n : i ≠ j) : KbOk T.ft S.kept H := fun x hx => by
  have hm := I.pl x hx
  obtain ⟨k, hk⟩ := List.getElem?_of_mem hm
  have g : (fR (x.ba, x.bits)).P H := h.gget i hi hk
  obtain ⟨q, e1, _, e3⟩ := I.w.kq x hx
  have := qs_ok I.w.qok q (List.mem_of_getElem? e1)
  rw [e3] at this
  exact ⟨g.1, h.hs.sep i j _ _ n hi hj x.ba (mem_tG.mpr ⟨(x.ba, x.bits), hm, .head _⟩), this.1, this.2.2.1⟩
theorem L73.po {S : LkS} {D : SD} {P : List WP} {po : List PT} {qs : List QT} : ∀ p ∈ po, (p.t, ptV p) ∈ L73 S D P po qs := fun p hp => List.mem_append_right _ (List.mem_append_right _ (List.mem_append_left _ (List.mem_map.mpr ⟨p, hp, rfl⟩)))
theorem L73.ps {S : LkS} {D : SD} {P : List WP} {po : List PT} {qs : List QT} : ∀ p ∈ D.ps, (p.t, qtV p) ∈ L73 S D P po qs := fun p hp => List.mem_append_right _ (List.mem_append_right _ (List.mem_append_right _ (List.mem_append_left _ (List.mem_map.mpr ⟨p, hp, rfl⟩))))
theorem L73.qs {S : LkS} {D : SD} {P : List WP} {po : List PT} {qs : List QT} : ∀ p ∈ qs, (p.t, qtV p) ∈ L73 S D P po qs := fun p hp => List.mem_append_right _ (List.mem_append_right _ (List.mem_append_right _ (List.mem_append_right _ (List.mem_append_right _ (List.mem_append_right _ (List.mem_map.mpr ⟨p, hp, rfl⟩))))))
/-- the sender within the dict of both halves changed -/
theorem up_m3 {M : MD3} {D D' : SD} {rs : List (Addr × List Int)} {qs : List QT} {th : List Nat} {H H' : Hp} (h : (tM3 M D rs qs th).P H) (e : D'.d = D.d) (u : Up (tSd D) (sdTs D') H H') : Up (tM3 M D rs qs th) [tM3 M D' rs qs th] H H' := by
  obtain ⟨d', lp', lo', ps', base', sent', ord'⟩ := D'
  obtain rfl : d' = D.d := e
  exact up_part2 (As := mTs3 M D.d rs qs th) (Bs := sdTs D) (Ns := []) h u
theorem G42.intake {S : LkS} {D : SD} {P : List WP} {hl : Nat} (h : G42 S D P hl) {iP : List WP} {place : Nat} {kept : List KT} {begun : List Int} {owes : Bool} : G42 { S with iP := iP, place := place, kept := kept, begun := begun, owes := owes } D P hl := ⟨⟨h.ls.bs, h.ls.sn, h.ls.perm, h.ls.ord, h.ls.que, h.ls.few, h.ls.psl⟩, h.pc, h.qp, h.cut, h.small, h.wsS, h.w61, h.plen, h.hl4⟩
abbrev fO (w : Option (List Int) × L2.V) : Th := tG (oTs w.1 w.2)
def FrN : LkS → List (Option (List Int)) → LkS → Prop
  | S, [], S2 => S2 = S
  | S, o :: os, S2 => ∃ q' s', FrR S q' s' o ∧ FrN { S with queue := q', sent := s', owes := false } os S2
theorem FrN.snoc : ∀ {os : List (Option (List Int))} {S S1 : LkS} {q' s' : List PT} {o : Option (List Int)}, FrN S os S1 → FrR S1 q' s' o → FrN S (os ++ [o]) { S1 with queue := q', sent := s', owes := false }
  | [], S, S1, q', s', o, h, f => by
    have h : S1 = S := h
    subst h
    exact ⟨q', s', f, rfl⟩
  | o0 :: os, S, S1, q', s', o, ⟨q0, s0, f0, h⟩, f => ⟨q0, s0, f0, FrN.snoc h f⟩
theorem FrN.sub : ∀ {os : List (Option (List Int))} {S S1 : LkS}, FrN S os S1 → (∀ p ∈ S1.queue ++ S1.sent, p ∈ S.queue ++ S.sent) ∧ S1.sent.length ≤ S.sent.length + os.length
  | [], S, S1, h => by
    have h : S1 = S := h
    subst h
    exact ⟨fun p hp => hp, Nat.le_refl _⟩
  | o0 :: os, S, S1, ⟨q0, s0, f0, h⟩ => by
    obtain ⟨a, b⟩ := FrN.sub h
    obtain ⟨c, d⟩ := f0.sub
    refine ⟨fun p hp => c p (a p hp), ?_⟩
    have b : S1.sent.length ≤ s0.length + os.length := b
    rw [List.length_cons]
    omega
theorem shaped_2o (a b : Option (List Int)) : SeqAt.shaped (.list [dO a, dO b]) = true := by
  have c : ∀ o, PyData.canLay0 (dO o) = true := fun o => by
    cases o with
    | none => rfl
    | some ns => exact canLay_ints ns
  have d : ∀ o, PyData.depth (dO o) ≤ 1 := fun o => by
    cases o with
    | none => exact Nat.zero_le _
    | some ns =>
      show PyData.depthAll (ns.map PyData.int) + 1 ≤ 1
      rw [depth_ints]
      exact Nat.le_refl _
  unfold SeqAt.shaped
  rw [Bool.and_eq_true]
  refine ⟨?_, decide_eq_true ?_⟩
  · show (PyData.canLay0 (dO a) && (PyData.canLay0 (dO b) && true)) = true
    rw [c a, c b]
    rfl
  · show max (PyData.depth (dO a)) (max (PyData.depth (dO b)) 0) + 1 ≤ 64
    have := d a
    have := d b
    omega
theorem sc__law_bag : FnScope ["_law_script"] ["_law_script"] (defScope s__law_bag) := ⟨rfl, rfl, rfl, by decide +kernel, rfl, by decide +kernel, by decide +kernel⟩
theorem ok__law_bag {f : Addr} {fd : FuncData} {k : Nat} (F : Fun K "_law_bag" "_law_bag" s__law_bag f fd) (n_len : mg "len" = none) (n_list : mg "list" = none) : FnOk P w K mg base CX0 (k + 1) f fd ["_law_script"] (spBag K) := by
  have sc := sc__law_bag
  refine F.ok sc (fun vs H Q E h => ?_) (fun cdv A outer s H vs Q E hr h => ?_)
  · obtain ⟨a, ns, rfl, _⟩ := h
    rfl
  · obtain ⟨a, ns, rfl, hS, q⟩ := h
    refine ⟨_, (pss_one (ps_ret (pe_lst (pa_cons (pe_callTy (call_listK K rfl) (by rfl) n_list (by decide +kernel) (pa_cons (pe_slice (sl_listK K rfl) (pv 0) po_none (po_some pe_int)) pa_nil)) (pa_cons pe_int (pa_cons pe_int (pa_cons (pe_op op_add pe_int (pe_callB (call_lenK K rfl) (by rfl) n_len PySem.boot_len (pa_cons (pe_slice (sl_listK K rfl) (pv 0) po_none (po_some pe_int)) pa_nil))) (pa_cons pe_int pa_nil)))))))), ?_⟩
    refine ⟨_, rfl, 63, rfl, a, _, rfl, hS, fun p1 n1 => ?_⟩
    refine ⟨p1, _, rfl, .inl (SqL.of upd_same), fun p2 n2 => ?_⟩
    have s1 : Same H (upd H p1 (.lst (cutV (ns.map V.int) none (some 63)))) := same_upd n1
    have s2 := s1.trans (same_upd (o := .lst (cutV (ns.map V.int) none (some 63))) n2)
    refine ⟨_, rfl, 63, rfl, a, _, rfl, s2.seq hS, fun p3 n3 => ?_⟩
    have s3 := s2.trans (same_upd (o := .lst (cutV (ns.map V.int) none (some 63))) n3)
    refine ⟨p3, _, rfl, .inl (SqL.of upd_same), _, _, rfl, rfl, (by show 5 ≤ sizeLine; decide), fun p4 n4 => ?_⟩
    have s4 := s3.trans (same_upd (o := .lst (bagL p2 0 0 (977 + ((cutV (ns.map V.int) none (some 63)).length : Int)) 0)) n4)
    have e0 : cutV (ns.map V.int) none (some 63) = (ns.take 63).map V.int := by
      unfold cutV
      rw [HT.sIx_none, show HT.sIx (ns.map V.int).length (ns.map V.int).length (some 63) = min 63 (ns.map V.int).length from HT.sIx_nat _ _ 63]
      simp only [List.drop_zero, Nat.sub_zero, List.length_map, List.map_take]
      by_cases h : ns.length ≤ 63
      · rw [Nat.min_eq_right h, List.take_of_length_le (by simp), List.take_of_length_le (by simpa using h)]
      · rw [Nat.min_eq_left (by omega)]
    have n42 : p4 ≠ p2 := fun z => by
      rw [z, upd_ne (ne_of_none upd_same n3), upd_same] at n4
      cases n4
    refine q _ (p4, p2) s4 (s3.free n4) ⟨ns.take 63, 0, 0, _, 0, upd_same, ?_, n42.symm, by omega, ?_, ?_⟩
    · rw [upd_ne n42.symm, upd_ne (ne_of_none upd_same n3), upd_same, e0]
    · omega
    · rw [e0, List.length_map, List.length_take]
      omega
theorem sc__law_pick : FnScope ["_law_bag_here", "_law_top", "_law_cell", "_law_digit"] ["_law_bag_here", "_law_top"] (defScope s__law_pick) := ⟨rfl, rfl, rfl, by decide +kernel, rfl, by decide +kernel, by decide +kernel⟩
theorem ok__law_pick {f : Addr} {fd : FuncData} {k : Nat} (F : Fun K "_law_pick" "_law_pick" s__law_pick f fd) (n_len : mg "len" = none) : FnOk P w K mg base CX0 (k + 1) f fd ["_law_bag_here", "_law_top"] spPick := by
  have sc := sc__law_pick
  refine F.ok sc (fun vs H Q E h => ?_) (fun cdv A outer s H vs Q E hr h => ?_)
  · obtain ⟨b, top, rfl, _⟩ := h
    rfl
  · obtain ⟨⟨b, sa⟩, top, rfl, ⟨ns, i, r, x, c, hb, hs, hne, hi, hx0, hx1⟩, ht0, ht1, q⟩ := h
    refine ⟨_, (pss_cons (ps_if (PW.pt (pw_and (pt_cmpR op_lt (pe_ix (ix_listK K rfl) (pv 0) pe_int (fun _ _ => rfl)) (pv 1) (nomark _)) (pw_and1 (pt_cmpR op_lt (pe_ix (ix_listK K rfl) (pv 0) pe_int (fun _ _ => rfl)) (pe_callB (call_lenK K rfl) (by rfl) n_len PySem.boot_len (pa_cons (pe_ix (ix_listK K rfl) (pv 0) pe_int (fun _ _ => rfl)) pa_nil)) (nomark _)))))
  (pss_cons (ps_set (i := 2) sc.nd rfl (.inl rfl) (pe_ix (ix_listK K rfl) (pe_ix (ix_listK K rfl) (pv 0) pe_int (fun _ _ => rfl)) (pe_ix (ix_listK K rfl) (pv 0) pe_int (fun _ _ => rfl)) (fun _ _ => rfl)))
 (pss_cons (ps_asg (pe_op op_add (pe_ix (ix_listK K rfl) (pv 0) pe_int (fun _ _ => rfl)) pe_int) (pg_sub (pv 0) pe_int set_list))
 (pss_cons (ps_asg (pe_op op_mod (pe_op op_add (pe_op op_add (pe_op op_mul (pe_ix (ix_listK K rfl) (pv 0) pe_int (fun _ _ => rfl)) pe_int) (pv 2)) (pe_ix (ix_listK K rfl) (pv 0) pe_int (fun _ _ => rfl))) pe_int) (pg_sub (pv 0) pe_int set_list))
 (pss_one (ps_asg (pe_ifExp (pt_cmpR op_ge (pv 2) (pe_op op_pow pe_int pe_int) (nomark _)) (pv 2) pe_int) (pg_sub (pv 0) pe_int set_list))))))
  pss_nil)
 (pss_cons (ps_if (pt_cmpR op_ge (pe_ix (ix_listK K rfl) (pv 0) pe_int (fun _ _ => rfl)) (pv 1) (nomark _))
  (pss_cons (ps_set (i := 3) sc.nd rfl (.inl rfl) (pe_op op_mod (pe_ix (ix_listK K rfl) (pv 0) pe_int (fun _ _ => rfl)) (pv 1)))
 (pss_cons (ps_asg (pe_op op_fdiv (pe_ix (ix_listK K rfl) (pv 0) pe_int (fun _ _ => rfl)) (pv 1)) (pg_sub (pv 0) pe_int set_list))
 (pss_one (ps_ret (pv 3)))))
  pss_nil)
 (pss_cons (ps_asg (pe_op op_add (pe_ix (ix_listK K rfl) (pv 0) pe_int (fun _ _ => rfl)) pe_int) (pg_sub (pv 0) pe_int set_list))
 (pss_cons (ps_asg (pe_op op_mod (pe_op op_add (pe_op op_add (pe_op op_add (pe_op op_pow (pe_ix (ix_listK K rfl) (pv 0) pe_int (fun _ _ => rfl)) pe_int) (pe_op op_mul pe_int (pe_ix (ix_listK K rfl) (pv 0) pe_int (fun _ _ => rfl)))) (pe_op op_fdiv (pe_ix (ix_listK K rfl) (pv 0) pe_int (fun _ _ => rfl)) pe_int)) pe_int) pe_int) (pg_sub (pv 0) pe_int set_list))
 (pss_one (ps_ret (pe_op op_mod (pe_op op_fdiv (pe_ix (ix_listK K rfl) (pv 0) pe_int (fun _ _ => rfl)) pe_int) (pv 1)))))))), ?_⟩
    refine seq_by (J := fun σ1 H1 => ∃ (y2 : Option V) (i r x c : Int), σ1 = [some (.ref b), some (.int top), y2, none] ∧ H1 b = some (.lst (bagL sa i r x c)) ∧ H1 sa = some (.lst (ns.map V.int)) ∧ Mv b H H1 ∧ 0 ≤ i ∧ 0 ≤ x ∧ x < 2147483648) ?_ (fun rest => ?_)
    · rintro σ1 H1 ⟨y2, i, r, x, c, rfl, hb, hs, mv, hi, hx0, hx1⟩
      refine ⟨_, rfl, b, _, 2, .int r, rfl, rfl, SqL.of hb, rfl, _, rfl, r, top, rfl, rfl, _, rfl, ite2 (fun e => ?_) (fun e => ?_)⟩
      · refine ⟨_, rfl, b, _, 2, .int r, rfl, rfl, SqL.of hb, rfl, _, rfl, r, top, rfl, rfl, ht0, ?_⟩
        refine ⟨_, rfl, b, _, 2, .int r, rfl, rfl, SqL.of hb, rfl, _, rfl, r, top, rfl, rfl, ⟨ht0, ht1⟩, ?_⟩
        refine ⟨_, rfl, b, _, 2, 2, rfl, rfl, hb, rfl, ?_⟩
        refine ⟨_, rfl, ?_⟩
        refine q _ _ mv.upd ⟨ns, i, _, x, c, upd_same, ?_, hne, hi, hx0, hx1⟩ (Int.emod_nonneg _ (by omega)) (Int.emod_lt_of_pos _ ht0)
        rw [upd_ne hne]
        exact hs
      · refine ⟨_, rfl, b, _, 4, .int c, rfl, rfl, SqL.of hb, rfl, c, 1, rfl, rfl, _, rfl, b, _, 4, 4, rfl, rfl, hb, rfl, ?_⟩
        have hb2 : upd H1 b (.lst (bagL sa i r x (c + 1))) b = some (.lst (bagL sa i r x (c + 1))) := upd_same
        refine ⟨_, rfl, b, _, 3, .int x, rfl, rfl, SqL.of hb2, rfl, x, 3, rfl, rfl, ⟨by decide, by decide, by omega⟩, ?_⟩
        refine ⟨_, rfl, b, _, 4, .int (c + 1), rfl, rfl, SqL.of hb2, rfl, 40503, c + 1, rfl, rfl, .inl ⟨by decide, by decide⟩, _, _, rfl, rfl, ?_⟩
        refine ⟨_, rfl, b, _, 3, .int x, rfl, rfl, SqL.of hb2, rfl, x, 65537, rfl, rfl, ⟨by decide, by decide⟩, _, _, rfl, rfl, _, _, rfl, rfl, _, _, rfl, rfl, (by show (0 : Int) < 2147483629; decide), ?_⟩
        refine ⟨_, rfl, b, _, 3, 3, rfl, rfl, hb2, rfl, ?_⟩
        rw [upd_upd]
        obtain ⟨z, hz⟩ : ∃ z, (x ^ Int.toNat 3 + 40503 * (c + 1) + x / 65537 + 11) % 2147483629 = z := ⟨_, rfl⟩
        have ez : (bagL sa i r x (c + 1)).set 3 ((fun i j => V.int (i % j)) (x ^ Int.toNat 3 + 40503 * (c + 1) + x / 65537 + 11) 2147483629) = bagL sa i r z (c + 1) := by rw [← hz]; rfl
        rw [ez]
        have z0 : 0 ≤ z := by rw [← hz]; exact Int.emod_nonneg _ (by decide)
        have z1 : z < 2147483648 := by
          have : z < 2147483629 := by rw [← hz]; exact Int.emod_lt_of_pos _ (by decide)
          omega
        have hb3 : upd H1 b (.lst (bagL sa i r z (c + 1))) b = some (.lst (bagL sa i r z (c + 1))) := upd_same
        refine ⟨_, rfl, b, _, 3, .int z, rfl, rfl, SqL.of hb3, rfl, z, 16, rfl, rfl, ⟨by decide, by decide⟩, _, rfl, _, top, rfl, rfl, ht0, ?_⟩
        refine q _ _ mv.upd ⟨ns, i, r, z, c + 1, upd_same, ?_, hne, hi, z0, z1⟩ (Int.emod_nonneg _ (by omega)) (Int.emod_lt_of_pos _ ht0)
        rw [upd_ne hne]
        exact hs
    · refine ⟨_, rfl, b, _, 2, .int r, rfl, rfl, SqL.of hb, rfl, _, rfl, r, top, rfl, rfl, _, rfl, ite2 (fun e => ?_) (fun e => ?_)⟩
      · refine ⟨_, rfl, b, _, 1, .int i, rfl, rfl, SqL.of hb, rfl, _, rfl, b, _, 0, .ref sa, rfl, rfl, SqL.of hb, rfl, sa, _, rfl, .inl (SqL.of hs), i, _, rfl, rfl, _, rfl, ite2 (fun e2 => ?_) (fun e2 => ?_)⟩
        · have hlt : i < (ns.length : Int) := by
            have := of_decide_eq_true e2
            rw [List.length_map] at this
            exact this
          obtain ⟨z, hz⟩ : ∃ z, ns[i.toNat]? = some z := ⟨_, List.getElem?_eq_getElem (by omega)⟩
          have hat : atI (ns.map V.int) i = some (.int z) := by
            have := atI_nat (xs := ns.map V.int) (j := i.toNat) (v := .int z) (by rw [List.getElem?_map, hz]; rfl)
            rwa [Int.toNat_of_nonneg hi] at this
          refine ⟨_, rfl, b, _, 0, .ref sa, rfl, rfl, SqL.of hb, rfl, _, rfl, b, _, 1, .int i, rfl, rfl, SqL.of hb, rfl, sa, _, i, _, rfl, rfl, SqL.of hs, hat, ?_⟩
          refine ⟨_, rfl, b, _, 1, .int i, rfl, rfl, SqL.of hb, rfl, i, 1, rfl, rfl, _, rfl, b, _, 1, 1, rfl, rfl, hb, rfl, ?_⟩
          have hb2 : upd H b (.lst (bagL sa (i + 1) r x c)) b = some (.lst (bagL sa (i + 1) r x c)) := upd_same
          refine ⟨_, rfl, b, _, 3, .int x, rfl, rfl, SqL.of hb2, rfl, x, 48271, rfl, rfl, .inr ⟨by decide, by decide⟩, _, rfl, _, z, rfl, rfl, ?_⟩
          refine ⟨_, rfl, b, _, 1, .int (i + 1), rfl, rfl, SqL.of hb2, rfl, _, _, rfl, rfl, _, _, rfl, rfl, (by show (0 : Int) < 2147483629; decide), ?_⟩
          refine ⟨_, rfl, b, _, 3, 3, rfl, rfl, hb2, rfl, ?_⟩
          rw [upd_upd]
          obtain ⟨y, hy⟩ : ∃ y, (x * 48271 + z + (i + 1)) % 2147483629 = y := ⟨_, rfl⟩
          have ey : (bagL sa (i + 1) r x c).set 3 ((fun i j => V.int (i % j)) (x * 48271 + z + (i + 1)) 2147483629) = bagL sa (i + 1) r y c := by rw [← hy]; rfl
          rw [ey]
          have y0 : 0 ≤ y := by rw [← hy]; exact Int.emod_nonneg _ (by decide)
          have y1 : y < 2147483648 := by
            have : y < 2147483629 := by rw [← hy]; exact Int.emod_lt_of_pos _ (by decide)
            omega
          have hb3 : upd H b (.lst (bagL sa (i + 1) r y c)) b = some (.lst (bagL sa (i + 1) r y c)) := upd_same
          have hne2 : ∀ o : HO, upd H b o sa = some (.lst (ns.map V.int)) := fun o => by
            rw [upd_ne hne]
            exact hs
          refine ⟨_, rfl, 10, 18, rfl, rfl, ⟨by decide, by decide, by decide⟩, z, _, rfl, rfl, _, rfl, ite2 (fun e3 => ?_) (fun e3 => ?_)⟩
          · refine ⟨_, rfl, _, rfl, b, _, 2, 2, rfl, rfl, hb3, rfl, ?_⟩
            rw [upd_upd]
            exact rest _ _ ⟨some (.int z), i + 1, z, y, c, rfl, upd_same, hne2 _, (Mv.refl _ _).upd, by omega, y0, y1⟩
          · refine ⟨_, rfl, b, _, 2, 2, rfl, rfl, hb3, rfl, ?_⟩
            rw [upd_upd]
            exact rest _ _ ⟨some (.int z), i + 1, 0, y, c, rfl, upd_same, hne2 _, (Mv.refl _ _).upd, by omega, y0, y1⟩
        · exact rest _ _ ⟨none, i, r, x, c, rfl, hb, hs, Mv.refl _ _, hi, hx0, hx1⟩
      · exact rest _ _ ⟨none, i, r, x, c, rfl, hb, hs, Mv.refl _ _, hi, hx0, hx1⟩
theorem sc__law_same : FnScope ["_law_found", "_law_due", "_law_spot"] ["_law_found", "_law_due"] (defScope s__law_same) := ⟨rfl, rfl, rfl, by decide +kernel, rfl, by decide +kernel, by decide +kernel⟩
theorem ok__law_same {f : Addr} {fd : FuncData} (F : Fun K "_law_same" "_law_same" s__law_same f fd) (gS : mg "_law_same" = some (.ref f)) (bS : Binds K fd ["_law_found", "_law_due"] []) (n_len : mg "len" = none) (n_all : mg "all" = none) (n_bool : mg "bool" = none) (n_int : mg "int" = none)
    (n_isinstance : mg "isinstance" = none) (n_list : mg "list" = none) (n_range : mg "range" = none) (n_str : mg "str" = none) (n_tuple : mg "tuple" = none) : ∀ n : Nat, FnOk P w K mg base CX0 n f fd ["_law_found", "_law_due"] (spSame K n)
  | 0 => ⟨fun vs H Q E h => by obtain ⟨x, y, d, _, _, _, h, _⟩ := h; exact h.elim, fun A outer s H args us vs Q E hr e0 bt r h => by obtain ⟨x, y, d, _, _, _, h, _⟩ := h; exact h.elim⟩
  | n + 1 => by
    have c__law_same : Cal P w K mg base n "_law_same" ["_law_found", "_law_due"] (spSame K n) := ⟨f, fd, ok__law_same F gS bS n_len n_all n_bool n_int n_isinstance n_list n_range n_str n_tuple n, gS, F.kp, bS⟩
    have sc := sc__law_same
    refine F.ok sc (fun vs H Q E h => ?_) (fun cdv A outer s H vs Q E hr h => ?_)
    · obtain ⟨x, y, d, rfl, _⟩ := h
      rfl
    · obtain ⟨x, y, d, rfl, dx, dy, dn, sd, q⟩ := h
      have tx := ty_dp dx
      have ty := ty_dp dy
      refine ⟨_, (pss_cons (ps_if (pt_cmpR op_isN (pv 1) pe_non (nomark _))
  (pss_one (ps_ret (pe_cmpR op_isN (pv 0) pe_non (nomark _))))
  pss_nil)
 (pss_cons (ps_if (PW.pt (pw_or (pt_val (pe_callB (call_isiK1 K rfl) (by rfl) n_isinstance (by decide +kernel) (pa_cons (pv 1) (pa_cons (pe_bltn (v := .ty "bool") (by rfl) n_bool (by decide +kernel) rfl) pa_nil)))) (pw_or1 (pt_val (pe_callB (call_isiK1 K rfl) (by rfl) n_isinstance (by decide +kernel) (pa_cons (pv 0) (pa_cons (pe_bltn (v := .ty "bool") (by rfl) n_bool (by decide +kernel) rfl) pa_nil)))))))
  (pss_one (ps_ret (pe_and (pe_callB (call_isiK1 K rfl) (by rfl) n_isinstance (by decide +kernel) (pa_cons (pv 1) (pa_cons (pe_bltn (v := .ty "bool") (by rfl) n_bool (by decide +kernel) rfl) pa_nil))) (pe_and (pe_callB (call_isiK1 K rfl) (by rfl) n_isinstance (by decide +kernel) (pa_cons (pv 0) (pa_cons (pe_bltn (v := .ty "bool") (by rfl) n_bool (by decide +kernel) rfl) pa_nil))) (pe_one (pe_cmpR (op_eqDK K rfl hr.units) (pv 0) (pv 1) (nomark _)))))))
  pss_nil)
 (pss_cons (ps_if (pt_val (pe_callB (call_isiTK K rfl) (by rfl) n_isinstance (by decide +kernel) (pa_cons (pv 1) (pa_cons (pe_tup (pa_cons (pe_bltn (v := .ty "int") (by rfl) n_int (by decide +kernel) rfl) (pa_cons (pe_bltn (v := .ty "str") (by rfl) n_str (by decide +kernel) rfl) pa_nil))) pa_nil))))
  (pss_one (ps_ret (pe_and (pe_callB (call_isiTK K rfl) (by rfl) n_isinstance (by decide +kernel) (pa_cons (pv 0) (pa_cons (pe_tup (pa_cons (pe_bltn (v := .ty "int") (by rfl) n_int (by decide +kernel) rfl) (pa_cons (pe_bltn (v := .ty "str") (by rfl) n_str (by decide +kernel) rfl) pa_nil))) pa_nil))) (pe_and (pe_cmpR op_eq (pe_callB (call_isiK1 K rfl) (by rfl) n_isinstance (by decide +kernel) (pa_cons (pv 0) (pa_cons (pe_bltn (v := .ty "int") (by rfl) n_int (by decide +kernel) rfl) pa_nil))) (pe_callB (call_isiK1 K rfl) (by rfl) n_isinstance (by decide +kernel) (pa_cons (pv 1) (pa_cons (pe_bltn (v := .ty "int") (by rfl) n_int (by decide +kernel) rfl) pa_nil))) (nomark _)) (pe_one (pe_cmpR (op_eqDK K rfl hr.units) (pv 0) (pv 1) (nomark _)))))))
  pss_nil)
 (pss_cons (ps_if (PW.pt (pw_or (pt_cmpR op_ne (pe_callB (call_isiK1 K rfl) (by rfl) n_isinstance (by decide +kernel) (pa_cons (pv 1) (pa_cons (pe_bltn (v := .ty "list") (by rfl) n_list (by decide +kernel) rfl) pa_nil))) (pe_callB (call_isiK1 K rfl) (by rfl) n_isinstance (by decide +kernel) (pa_cons (pv 0) (pa_cons (pe_bltn (v := .ty "list") (by rfl) n_list (by decide +kernel) rfl) pa_nil))) (nomark _)) (pw_or1 (pt_cmpR op_ne (pe_callB (call_isiK1 K rfl) (by rfl) n_isinstance (by decide +kernel) (pa_cons (pv 1) (pa_cons (pe_bltn (v := .ty "tuple") (by rfl) n_tuple (by decide +kernel) rfl) pa_nil))) (pe_callB (call_isiK1 K rfl) (by rfl) n_isinstance (by decide +kernel) (pa_cons (pv 0) (pa_cons (pe_bltn (v := .ty "tuple") (by rfl) n_tuple (by decide +kernel) rfl) pa_nil))) (nomark _)))))
  (pss_one (ps_ret pe_bl))
  pss_nil)
 (pss_cons (ps_if (PW.pt (pw_or (pt_not (pt_val (pe_callB (call_isiTK K rfl) (by rfl) n_isinstance (by decide +kernel) (pa_cons (pv 0) (pa_cons (pe_tup (pa_cons (pe_bltn (v := .ty "list") (by rfl) n_list (by decide +kernel) rfl) (pa_cons (pe_bltn (v := .ty "tuple") (by rfl) n_tuple (by decide +kernel) rfl) pa_nil))) pa_nil))))) (pw_or1 (pt_cmpR op_ne (pe_callB (call_lenK K rfl) (by rfl) n_len PySem.boot_len (pa_cons (pv 0) pa_nil)) (pe_callB (call_lenK K rfl) (by rfl) n_len PySem.boot_len (pa_cons (pv 1) pa_nil)) (nomark _)))))
  (pss_one (ps_ret pe_bl))
  pss_nil)
 (pss_one (ps_ret (pe_callB (cr_allK K rfl rfl) (by rfl) n_all (by decide +kernel) (pa_cons (pe_lc (own := [("_law_spot", 2)]) (g := gName 2) (by rfl) sc.nd (pi_range1 (by rfl) n_range (pa_cons (pe_callB (call_lenK K rfl) (by rfl) n_len PySem.boot_len (pa_cons (pv 1) pa_nil)) pa_nil)) (blkOk_by (own := [("_law_spot", 2)]) (N := ["_law_found", "_law_due", "_law_spot"]) (sc := defScope s__law_same) (by decide +kernel)) (fun _ _ _ _ _ => (pg_name (i := 2) sc.nd rfl (Or.inl rfl))) (fun _ _ _ _ _ => pts_nil) (fun _ _ _ _ _ => (pe_callC c__law_same hr (by rfl) (pa_cons (pe_ix (ix_seqK K rfl) (pv 0) (pv 2) (fun _ _ => rfl)) (pa_cons (pe_ix (ix_seqK K rfl) (pv 1) (pv 2) (fun _ _ => rfl)) pa_nil))))) pa_nil))))))))), ?_⟩
      have er : PyData.eqv d d = true := SeqAt.eqv_refl d (SeqAt.canLay_of_shaped sd)
      rcases dn with ⟨b, rfl⟩ | ⟨i, rfl⟩ | ⟨z, rfl⟩ | rfl | ⟨ds, hd, hlen, hn⟩
      · have tx : TyX K H x (.type "bool") := tx
        have ty : TyX K H y (.type "bool") := ty
        have kb : PySem.W.kitOne K (.type "bool") (.type "bool") = some true := kit_ty (by decide +kernel)
        have dx' := dx
        have dy' := dy
        cases dx
        cases dy
        refine ⟨_, rfl, rfl, _, rfl, iteF ?_⟩
        refine ⟨_, rfl, _, _, _, _, true, rfl, .ty "bool", ty, kb, _, rfl, iteT ?_⟩
        refine iteT ?_
        refine ⟨_, rfl, _, _, _, _, true, rfl, .ty "bool", ty, kb, true, rfl, iteT ?_⟩
        refine ⟨_, rfl, _, _, _, _, true, rfl, .ty "bool", tx, kb, true, rfl, iteT ?_⟩
        refine ⟨_, rfl, _, rfl, .bool b, .bool b, dx', dy', sd, sd, ?_⟩
        rw [er]
        exact q _ (Same.refl _)
      · have tx : TyX K H x (.type "int") := tx
        have ty : TyX K H y (.type "int") := ty
        have kb : PySem.W.kitOne K (.type "int") (.type "bool") = some false := kit_ty (by decide +kernel)
        have ki : PySem.W.kitOne K (.type "int") (.type "int") = some true := kit_ty (by decide +kernel)
        have dx' := dx
        have dy' := dy
        cases dx
        cases dy
        refine ⟨_, rfl, rfl, _, rfl, iteF ?_⟩
        refine ⟨_, rfl, _, _, _, _, false, rfl, .ty "bool", ty, kb, _, rfl, iteF ?_⟩
        refine ⟨_, rfl, _, _, _, _, false, rfl, .ty "bool", tx, kb, _, rfl, iteF ?_⟩
        refine ⟨_, rfl, (by show 2 ≤ sizeLine; decide), fun p np => ?_⟩
        have s1 : Same H (upd H p (.tup [.ty "int", .ty "str"])) := same_upd np
        refine ⟨_, p, _, _, _, true, rfl, upd_same, .cons (.ty "int") (.cons (.ty "str") .nil), .base (.int i), kitAny_cons ki (fun z => nomatch z) (fun _ => rfl), _, rfl, iteT ?_⟩
        refine ⟨_, rfl, (by show 2 ≤ sizeLine; decide), fun p2 np2 => ?_⟩
        have s2 : Same _ (upd _ p2 (.tup [.ty "int", .ty "str"])) := same_upd np2
        refine ⟨_, p2, _, _, _, true, rfl, upd_same, .cons (.ty "int") (.cons (.ty "str") .nil), .base (.int i), kitAny_cons ki (fun z => nomatch z) (fun _ => rfl), true, rfl, iteT ?_⟩
        refine ⟨_, rfl, _, _, _, _, true, rfl, .ty "int", .base (.int i), ki, ?_⟩
        refine ⟨_, rfl, _, _, _, _, true, rfl, .ty "int", .base (.int i), ki, rfl, true, rfl, iteT ?_⟩
        refine ⟨_, rfl, _, rfl, .int i, .int i, .int i, .int i, sd, sd, ?_⟩
        rw [er]
        exact q _ (s1.trans s2)
      · have tx : TyX K H x (.type "str") := tx
        have ty : TyX K H y (.type "str") := ty
        have kb : PySem.W.kitOne K (.type "str") (.type "bool") = some false := kit_ty (by decide +kernel)
        have ki : PySem.W.kitOne K (.type "str") (.type "int") = some false := kit_ty (by decide +kernel)
        have ks : PySem.W.kitOne K (.type "str") (.type "str") = some true := kit_ty (by decide +kernel)
        have kk : PySem.W.kitAny K (.type "str") [.type "int", .type "str"] = some true := kitAny_cons ki (fun _ => kitAny_cons ks (fun z => nomatch z) (fun _ => rfl)) (fun z => nomatch z)
        cases dx
        cases dy
        refine ⟨_, rfl, rfl, _, rfl, iteF ?_⟩
        refine ⟨_, rfl, _, _, _, _, false, rfl, .ty "bool", ty, kb, _, rfl, iteF ?_⟩
        refine ⟨_, rfl, _, _, _, _, false, rfl, .ty "bool", tx, kb, _, rfl, iteF ?_⟩
        refine ⟨_, rfl, (by show 2 ≤ sizeLine; decide), fun p np => ?_⟩
        have s1 : Same H (upd H p (.tup [.ty "int", .ty "str"])) := same_upd np
        refine ⟨_, p, _, _, _, true, rfl, upd_same, .cons (.ty "int") (.cons (.ty "str") .nil), .base (.str z), kk, _, rfl, iteT ?_⟩
        refine ⟨_, rfl, (by show 2 ≤ sizeLine; decide), fun p2 np2 => ?_⟩
        have s2 : Same _ (upd _ p2 (.tup [.ty "int", .ty "str"])) := same_upd np2
        refine ⟨_, p2, _, _, _, true, rfl, upd_same, .cons (.ty "int") (.cons (.ty "str") .nil), .base (.str z), kk, true, rfl, iteT ?_⟩
        refine ⟨_, rfl, _, _, _, _, false, rfl, .ty "int", .base (.str z), ki, ?_⟩
        refine ⟨_, rfl, _, _, _, _, false, rfl, .ty "int", .base (.str z), ki, rfl, true, rfl, iteT ?_⟩
        refine ⟨_, rfl, _, rfl, .str z, .str z, .str z, .str z, sd, sd, ?_⟩
        rw [er]
        exact q _ (s1.trans s2)
      · cases dx
        cases dy
        refine ⟨_, rfl, rfl, _, rfl, iteT ?_⟩
        exact ⟨_, rfl, rfl, q _ (Same.refl _)⟩
      · -- a list or a tuple
        obtain ⟨ax, ay, xs, ys, nm, rfl, rfl, hsx, hsy, hax, hay, tx, ty, hnm, enm⟩ : ∃ (ax ay : Addr) (xs ys : List V) (nm : String), x = .ref ax ∧ y = .ref ay ∧ (SqL K H ax xs ∨ SqT K H ax xs) ∧ (SqL K H ay ys ∨ SqT K H ay ys) ∧ DpAll K H xs ds ∧ DpAll K H ys ds ∧
            TyX K H x (.type nm) ∧ TyX K H y (.type nm) ∧ (nm = "list" ∨ nm = "tuple") ∧ nm = tyN d := by
          rcases hd with rfl | rfl
          · cases dx with
            | lst h1 h2 =>
              cases dy with
              | lst h3 h4 => exact ⟨_, _, _, _, "list", rfl, rfl, .inl h1, .inl h3, h2, h4, tx, ty, .inl rfl, rfl⟩
          · cases dx with
            | tup h1 h2 =>
              cases dy with
              | tup h3 h4 => exact ⟨_, _, _, _, "tuple", rfl, rfl, .inr h1, .inr h3, h2, h4, tx, ty, .inr rfl, rfl⟩
        have kb : PySem.W.kitOne K (.type nm) (.type "bool") = some false := by rcases hnm with rfl | rfl <;> exact kit_ty (by decide +kernel)
        have ki : PySem.W.kitOne K (.type nm) (.type "int") = some false := by rcases hnm with rfl | rfl <;> exact kit_ty (by decide +kernel)
        have ks : PySem.W.kitOne K (.type nm) (.type "str") = some false := by rcases hnm with rfl | rfl <;> exact kit_ty (by decide +kernel)
        obtain ⟨bl, kl⟩ : ∃ bl, PySem.W.kitOne K (.type nm) (.type "list") = some bl := by
          rcases hnm with rfl | rfl
          · exact ⟨true, kit_ty (by decide +kernel)⟩
          · exact ⟨false, kit_ty (by decide +kernel)⟩
        obtain ⟨bt, kt⟩ : ∃ bt, PySem.W.kitOne K (.type nm) (.type "tuple") = some bt := by
          rcases hnm with rfl | rfl
          · exact ⟨false, kit_ty (by decide +kernel)⟩
          · exact ⟨true, kit_ty (by decide +kernel)⟩
        have kk : PySem.W.kitAny K (.type nm) [.type "int", .type "str"] = some false := kitAny_cons ki (fun _ => kitAny_cons ks (fun _ => rfl) (fun z => nomatch z)) (fun z => nomatch z)
        have kq : PySem.W.kitAny K (.type nm) [.type "list", .type "tuple"] = some true := by
          rcases hnm with rfl | rfl
          · exact kitAny_cons (b := true) (kit_ty (by decide +kernel)) (fun z => nomatch z) (fun _ => rfl)
          · exact kitAny_cons (b := false) (kit_ty (by decide +kernel)) (fun _ => kitAny_cons (b := true) (kit_ty (by decide +kernel)) (fun z => nomatch z) (fun _ => rfl)) (fun z => nomatch z)
        have typ : ∀ {H' : Hp} {v : V}, Same H H' → TyX K H v (.type nm) → (v = .ref ax ∨ v = .ref ay) → TyX K H' v (.type nm) := by
          intro H' v sm h hv
          rw [enm]
          rcases hv with rfl | rfl
          · exact ty_dp (dp_same sm dx)
          · exact ty_dp (dp_same sm dy)
        refine ⟨_, rfl, rfl, _, rfl, iteF ?_⟩
        refine ⟨_, rfl, _, _, _, _, false, rfl, .ty "bool", ty, kb, _, rfl, iteF ?_⟩
        refine ⟨_, rfl, _, _, _, _, false, rfl, .ty "bool", tx, kb, _, rfl, iteF ?_⟩
        refine ⟨_, rfl, (by show 2 ≤ sizeLine; decide), fun p np => ?_⟩
        have s1 : Same H (upd H p (.tup [.ty "int", .ty "str"])) := same_upd np
        refine ⟨_, p, _, _, _, false, rfl, upd_same, .cons (.ty "int") (.cons (.ty "str") .nil), typ s1 ty (.inr rfl), kk, _, rfl, iteF ?_⟩
        refine ⟨_, rfl, _, _, _, _, bl, rfl, .ty "list", typ s1 ty (.inr rfl), kl, ?_⟩
        refine ⟨_, rfl, _, _, _, _, bl, rfl, .ty "list", typ s1 tx (.inl rfl), kl, rfl, _, rfl, ifF (by simp) ?_⟩
        refine ⟨_, rfl, _, _, _, _, bt, rfl, .ty "tuple", typ s1 ty (.inr rfl), kt, ?_⟩
        refine ⟨_, rfl, _, _, _, _, bt, rfl, .ty "tuple", typ s1 tx (.inl rfl), kt, rfl, _, rfl, ifF (by simp) ?_⟩
        refine ⟨_, rfl, (by show 2 ≤ sizeLine; decide), fun p2 np2 => ?_⟩
        have s2 : Same H _ := s1.trans (same_upd (o := .tup [.ty "list", .ty "tuple"]) np2)
        refine ⟨_, p2, _, _, _, true, rfl, upd_same, .cons (.ty "list") (.cons (.ty "tuple") .nil), typ s2 tx (.inl rfl), kq, _, rfl, iteF ?_⟩
        have sq2 : ∀ {H' : Hp} {a : Addr} {zs : List V}, Same H H' → (SqL K H a zs ∨ SqT K H a zs) → (SqL K H' a zs ∨ SqT K H' a zs) := fun sm h => h.elim (fun z => .inl (sm.seq z)) (fun z => .inr (same_t sm z))
        refine ⟨_, rfl, ax, xs, rfl, sq2 s2 hsx, _, rfl, ay, ys, rfl, sq2 s2 hsy, rfl, _, rfl, ifF (by rw [dpa_len hax, dpa_len hay]; simp) ?_⟩
        refine ⟨_, rfl, ay, ys, rfl, sq2 s2 hsy, _, rfl, ?_, ?_, fun D nD => lc_range (lo := 0) (n := ((ys.length : Int)).toNat) (fun i H' => Same H H' ∧ H' D = some (.lst ((List.replicate i true).map V.bl))) ?_ ?_ ?_⟩
        · rw [dpa_len hay]
          omega
        · rw [dpa_len hay]
          omega
        · exact ⟨s2.trans (same_upd nD), upd_same⟩
        · rintro i H' hi ⟨sm, eD⟩
          rw [Int.toNat_natCast] at hi
          have hds : i < ds.length := by rw [← dpa_len hay]; exact hi
          obtain ⟨vx, gx, dvx⟩ := dpa_get hax (List.getElem?_eq_getElem hds)
          obtain ⟨vy, gy, dvy⟩ := dpa_get hay (List.getElem?_eq_getElem hds)
          have ix : ∀ {a : Addr} {zs : List V} {v : V} {Q' : VK}, (SqL K H a zs ∨ SqT K H a zs) → zs[i]? = some v → Q' v H' → rIx K (.ref a) (.int (0 + (i : Int))) H' Q' := by
            intro a zs v Q' h g q'
            have e : atI zs (0 + (i : Int)) = some v := by rw [Int.zero_add]; exact atI_nat g
            rcases sq2 sm h with h | h
            · exact .inl ⟨a, zs, _, v, rfl, rfl, h, e, q'⟩
            · exact .inr (.inl ⟨a, zs, _, v, rfl, rfl, h, e, q'⟩)
          refine ⟨rfl, tYes_by (iteT ?_)⟩
          refine ⟨_, rfl, _, rfl, ix hsx gx ?_⟩
          refine ⟨_, rfl, _, rfl, ix hsy gy ?_⟩
          refine ⟨vx, vy, ds[i], rfl, dp_same sm dvx, dp_same sm dvy, hn _ (List.getElem_mem hds), ?_, fun H2 s4 => ?_⟩
          · exact shaped_mem (List.getElem_mem hds) (hd.elim (fun z => .inl (z ▸ sd)) (fun z => .inr (z ▸ sd)))
          · refine ⟨_, s4 _ _ eD, ?_, ?_, ?_⟩
            · rw [List.length_map, List.length_replicate]
              exact Nat.lt_of_lt_of_le (show i < 100000 by omega) (by decide)
            · exact same_mut (sm.trans s4) (s2.free nD)
            · rw [upd_same, List.replicate_succ', List.map_append]
              rfl
        · rintro H' ⟨sm, eD⟩
          refine ⟨D, _, rfl, SqL.of eD, ?_⟩
          have e : (List.replicate ((ys.length : Int)).toNat true).all id = true := by simp
          rw [e]
          exact q _ sm
theorem sc__law_row : FnScope ["_law_bag_here", "_law_most", "_law_few", "_law_kind", "_law_size", "_law_k"] ["_law_bag_here", "_law_most"] (defScope s__law_row) := ⟨rfl, rfl, rfl, by decide +kernel, rfl, by decide +kernel, by decide +kernel⟩
def spRow : Sp := fun vs H Q _ => ∃ (b : Addr × Addr) (m : Int), vs = [.ref b.1, .int m] ∧ Bag b H ∧ 0 ≤ m ∧ m ≤ 1000 ∧ ∀ (H' : Hp) (p : Addr) (ns : List Int), Mv b.1 H H' → Bag b H' → H p = none → H' p = some (.lst (ns.map V.int)) → Bytes ns → (ns.length : Int) ≤ m → Q (.ref p) H'
theorem rep1 (d : Int) : ∀ m : Nat, (List.replicate m [V.int d]).flatten = (List.replicate m d).map V.int
  | 0 => rfl
  | m + 1 => by
    rw [List.replicate_succ, List.flatten_cons, rep1 d m, List.replicate_succ]
    rfl
theorem bytes_nil : Bytes [] := fun _ h => absurd h List.not_mem_nil
theorem bytes_snoc {ns : List Int} {z : Int} (h : Bytes ns) (hz : isY z) : Bytes (ns ++ [z]) := fun y hy => by
  rcases List.mem_append.mp hy with e | e
  · exact h y e
  · rw [List.mem_singleton.mp e]
    exact hz
theorem ok__law_row {f : Addr} {fd : FuncData} {k : Nat} (F : Fun K "_law_row" "_law_row" s__law_row f fd) (n_range : mg "range" = none) (c__law_pick : Cal P w K mg base k "_law_pick" ["_law_bag_here", "_law_top"] spPick) : FnOk P w K mg base CX0 (k + 1) f fd ["_law_bag_here", "_law_most"] spRow := by
  have sc := sc__law_row
  refine F.ok sc (fun vs H Q E h => ?_) (fun cdv A outer s H vs Q E hr h => ?_)
  · obtain ⟨b, m, rfl, _⟩ := h
    rfl
  · obtain ⟨b, m, rfl, hB, hm0, hm1, q⟩ := h
    refine ⟨_, (pss_cons (ps_set (i := 2) sc.nd rfl (.inr rfl) (pe_lst (pa_cons (pe_callC c__law_pick hr (by rfl) (pa_cons (pv 0) (pa_cons pe_int pa_nil))) (pa_cons (pe_callC c__law_pick hr (by rfl) (pa_cons (pv 0) (pa_cons pe_int pa_nil))) (pa_cons pe_int pa_nil)))))
 (pss_cons (ps_set (i := 3) sc.nd rfl (.inr rfl) (pe_callC c__law_pick hr (by rfl) (pa_cons (pv 0) (pa_cons pe_int pa_nil))))
 (pss_cons (ps_set (i := 4) sc.nd rfl (.inl rfl) (pe_callC c__law_pick hr (by rfl) (pa_cons (pv 0) (pa_cons (pe_op op_add (pv 1) pe_int) pa_nil))))
 (pss_cons (ps_if (pt_cmpR op_eq (pv 3) pe_int (nomark _))
  (pss_one (ps_ret (pe_lc (own := [("_law_k", 5)]) (g := gName 5) (by rfl) sc.nd (pi_range1 (by rfl) n_range (pa_cons (pv 4) pa_nil)) (blkOk_by (own := [("_law_k", 5)]) (N := ["_law_bag_here", "_law_most", "_law_few", "_law_kind", "_law_size", "_law_k"]) (sc := defScope s__law_row) (by decide +kernel)) (fun _ _ _ _ _ => (pg_name (i := 5) sc.nd rfl (Or.inl rfl))) (fun _ _ _ _ _ => pts_nil) (fun _ _ _ _ _ => (pe_callC c__law_pick hr (by rfl) (pa_cons (pv 0) (pa_cons pe_int pa_nil)))))))
  pss_nil)
 (pss_cons (ps_if (pt_cmpR op_eq (pv 3) pe_int (nomark _))
  (pss_one (ps_ret (pe_op op_rep (pe_lst (pa_cons (pe_ix (ix_listK K rfl) (pv 2) pe_int (fun _ _ => rfl)) pa_nil)) (pv 4))))
  pss_nil)
 (pss_one (ps_ret (pe_lc (own := [("_law_k", 5)]) (g := gName 5) (by rfl) sc.nd (pi_range1 (by rfl) n_range (pa_cons (pv 4) pa_nil)) (blkOk_by (own := [("_law_k", 5)]) (N := ["_law_bag_here", "_law_most", "_law_few", "_law_kind", "_law_size", "_law_k"]) (sc := defScope s__law_row) (by decide +kernel)) (fun _ _ _ _ _ => (pg_name (i := 5) sc.nd rfl (Or.inl rfl))) (fun _ _ _ _ _ => pts_nil) (fun _ _ _ _ _ => (pe_ix (ix_listK K rfl) (pv 2) (pe_callC c__law_pick hr (by rfl) (pa_cons (pv 0) (pa_cons (pv 3) pa_nil))) (fun _ _ => rfl))))))))))), ?_⟩
    refine ⟨_, rfl, b, 256, rfl, hB, by decide, by decide, fun H1 x mv1 hB1 x0 x1 => ?_⟩
    refine ⟨_, rfl, b, 256, rfl, hB1, by decide, by decide, fun H2 y mv2 hB2 y0 y1 => ?_⟩
    refine ⟨(by show 3 ≤ sizeLine; decide), fun pf nf => ?_⟩
    have h3 := (SH.nil hB2).new (o := .lst [.int x, .int y, .int 43]) nf
    have m3 : Mv b.1 H _ := (mv1.trans mv2).trans (Mv.of (same_upd (o := .lst [.int x, .int y, .int 43]) nf))
    refine ⟨_, rfl, b, 4, rfl, h3.bag, by decide, by decide, fun H4 kd mv4 hB4 k0 k1 => ?_⟩
    have h4 := h3.mv mv4 hB4
    refine ⟨_, rfl, _, rfl, _, _, rfl, rfl, b, m + 1, rfl, hB4, by omega, by omega, fun H5 sz mv5 hB5 z0 z1 => ?_⟩
    have h5 := h4.mv mv5 hB5
    have m5 : Mv b.1 H H5 := (m3.trans mv4).trans mv5
    have done : ∀ (D : Addr) (H6 : Hp) (ns : List Int), H5 D = none → Mv b.1 H5 H6 → Bag b H6 → H6 D = some (.lst (ns.map V.int)) → Bytes ns → (ns.length : Int) ≤ sz → Q (.ref D) H6 := fun D H6 ns nD mv6 hB6 eD hby hl =>
      q H6 D ns (m5.trans mv6) hB6 (m5.none (hB5.ne nD) nD) eD hby (by omega)
    refine ⟨_, rfl, rfl, _, rfl, ite2 (fun e => ?_) (fun e => ?_)⟩
    · refine ⟨_, rfl, sz, rfl, by omega, by omega, fun D nD => lc_range (lo := 0) (n := sz.toNat) (fun i H' => Mv b.1 H5 H' ∧ ∃ ns : List Int, SH b H' [(D, .lst (ns.map V.int))] ∧ Bytes ns ∧ ns.length = i) ⟨Mv.of (same_upd nD), [], (SH.nil hB5).new nD, bytes_nil, rfl⟩ ?_ ?_⟩
      · rintro i H6 hi ⟨mv6, ns, h6, hby, hl⟩
        refine ⟨rfl, tYes_by (iteT ?_)⟩
        refine ⟨_, rfl, b, 256, rfl, h6.bag, by decide, by decide, fun H7 z mv7 hB7 z0' z1' => ?_⟩
        have h7 := h6.mv mv7 hB7
        refine ⟨_, h7.get (.head _), ?_, ?_, ns ++ [z], ?_, bytes_snoc hby ⟨z0', z1'⟩, by simp [hl]⟩
        · rw [List.length_map, hl]
          exact sz4l (by omega)
        · intro c o ne hc
          rw [upd_ne (ne_of_none hc nD)]
          exact mv7 c o ne (mv6 c o ne hc)
        · rw [List.map_append]
          exact h7.put (fun q hq => absurd hq List.not_mem_nil)
      · rintro H6 ⟨mv6, ns, h6, hby, hl⟩
        exact done D H6 ns nD mv6 h6.bag (h6.get (.head _)) hby (by omega)
    · have kne : ¬ kd = 0 := fun z => e (decide_eq_true (congrArg V.int z))
      refine ⟨_, rfl, rfl, _, rfl, ite2 (fun e2 => ?_) (fun e2 => ?_)⟩
      · refine ⟨_, rfl, pf, _, 0, .int x, rfl, rfl, SqL.of (h5.get (.head _)), rfl, (by show 1 ≤ sizeLine; decide), fun p6 n6 => ?_⟩
        have h6 := h5.new (o := .lst [.int x]) n6
        refine ⟨_, rfl, p6, sz, _, rfl, rfl, h6.get (.head _), by omega, by omega, ?_, fun p7 n7 => ?_⟩
        · show 1 * sz.toNat ≤ sizeLine
          exact sz4 (by omega)
        rw [rep1]
        have s7 := (same_upd (o := .lst [.int x]) n6).trans (same_upd (o := .lst ((List.replicate sz.toNat x).map V.int)) n7)
        exact done p7 _ (List.replicate sz.toNat x) ((same_upd n6).free n7) (Mv.of s7) (hB5.same s7) upd_same (fun z hz => by rw [List.eq_of_mem_replicate hz]; exact ⟨x0, x1⟩) (by rw [List.length_replicate]; omega)
      · have kne1 : ¬ kd = 1 := fun z => e2 (decide_eq_true (congrArg V.int z))
        refine ⟨_, rfl, sz, rfl, by omega, by omega, fun D nD => lc_range (lo := 0) (n := sz.toNat) (fun i H' => Mv b.1 H5 H' ∧ ∃ ns : List Int, SH b H' [(D, .lst (ns.map V.int)), (pf, .lst [.int x, .int y, .int 43])] ∧ Bytes ns ∧ ns.length = i) ⟨Mv.of (same_upd nD), [], h5.new nD, bytes_nil, rfl⟩ ?_ ?_⟩
        · rintro i H6 hi ⟨mv6, ns, h6, hby, hl⟩
          refine ⟨rfl, tYes_by (iteT ?_)⟩
          refine ⟨_, rfl, _, rfl, _, rfl, b, kd, rfl, h6.bag, by omega, by omega, fun H7 j mv7 hB7 j0 j1 => ?_⟩
          have h7 := h6.mv mv7 hB7
          obtain ⟨z, hz, hat⟩ : ∃ z : Int, isY z ∧ atI [V.int x, V.int y, V.int 43] j = some (.int z) := by
            have : j = 0 ∨ j = 1 ∨ j = 2 := by omega
            rcases this with rfl | rfl | rfl
            · exact ⟨x, ⟨x0, x1⟩, rfl⟩
            · exact ⟨y, ⟨y0, y1⟩, rfl⟩
            · exact ⟨43, ⟨by decide, by decide⟩, rfl⟩
          refine ⟨pf, _, j, _, rfl, rfl, SqL.of (h7.get (.tail _ (.head _))), hat, ?_⟩
          refine ⟨_, h7.get (.head _), ?_, ?_, ns ++ [z], ?_, bytes_snoc hby hz, by simp [hl]⟩
          · rw [List.length_map, hl]
            exact sz4l (by omega)
          · intro c o ne hc
            rw [upd_ne (ne_of_none hc nD)]
            exact mv7 c o ne (mv6 c o ne hc)
          · rw [List.map_append]
            exact h7.put (h5.apart nD)
        · rintro H6 ⟨mv6, ns, h6, hby, hl⟩
          exact done D H6 ns nD mv6 h6.bag (h6.get (.head _)) hby (by omega)
/-! ### links but for the places where they lie -/
abbrev cP (p : PT) : PT := ⟨0, p.place, p.last, 0, p.bits⟩
abbrev cK (x : KT) : KT := ⟨x.key, 0, x.last, 0, x.bits⟩
structure AS where
  ws : Wds
  cut : Nat
  queue : List PT
  sent : List PT
  owes : Bool
  iws : Wds
  place : Nat
  kept : List KT
  begun : List Int
def absS (S : LkS) : AS := ⟨wsOf S.P, S.cut, S.queue.map cP, S.sent.map cP, S.owes, wsOf S.iP, S.place, S.kept.map cK, S.begun⟩
def srtI (ps : List PT) : List Int := (ps.map fun p => (p.place : Int)).mergeSort (fun a b => decide (a ≤ b))
theorem srt_is {ps : List PT} {ms : List Int} (h : SrtP ps ms) : ms = srtI ps := by
  unfold srtI
  refine List.Perm.eq_of_pairwise (le := fun a b : Int => a ≤ b) (fun a b _ _ h1 h2 => Int.le_antisymm h1 h2) h.up ?_ (h.perm.trans (List.mergeSort_perm _ _).symm)
  have := List.pairwise_mergeSort (le := fun a b : Int => decide (a ≤ b)) (fun a b c h1 h2 => decide_eq_true (Int.le_trans (of_decide_eq_true h1) (of_decide_eq_true h2))) (fun a b => by
    rcases Int.le_total a b with z | z
    · simp [z]
    · simp [z]) (ps.map fun p => (p.place : Int))
  exact this.imp (fun h => of_decide_eq_true h)
theorem srtI_c (ps : List PT) : srtI (ps.map cP) = srtI ps := by
  unfold srtI
  rw [List.map_map]
  rfl
theorem frMove_c (q s : List PT) : frMove (q.map cP) (s.map cP) = (frMove q s).map fun r => (r.1.map cP, r.2.1.map cP, cP r.2.2) := by
  cases q with
  | nil =>
    cases s with
    | nil => rfl
    | cons y s => rfl
  | cons x q =>
    show (if (s.map cP).length < 4 then _ else _) = Option.map _ (if s.length < 4 then _ else _)
    rw [List.length_map]
    by_cases h : s.length < 4
    · rw [if_pos h, if_pos h]
      rfl
    · rw [if_neg h, if_neg h]
      cases s with
      | nil => rfl
      | cons y s => rfl
def newP (cut : Nat) (bs : List Int) : List PT := (List.range (pcN bs)).map fun j => ⟨0, cut + j, pcL bs j, 0, pcB bs j⟩
theorem pcs_abs {cut : Nat} {bs : List Int} {new : List PT} (h : PcsOf cut bs (pcN bs) new) : new.map cP = newP cut bs := by
  apply List.ext_getElem?
  intro j
  unfold newP
  rw [List.getElem?_map, List.getElem?_map]
  by_cases hj : j < pcN bs
  · obtain ⟨p, hp⟩ := getElem?_ex (l := new) (i := j) (by rw [h.len]; exact hj)
    obtain ⟨e1, e2, e3⟩ := h.all j p hp
    rw [hp, List.getElem?_range hj]
    show some (cP p) = some (⟨0, cut + j, pcL bs j, 0, pcB bs j⟩ : PT)
    rw [← e1, ← e2, ← e3]
  · rw [List.getElem?_eq_none (by rw [h.len]; omega), List.getElem?_eq_none (by rw [List.length_range]; omega)]
    rfl
def aHand (s : AS) (row : List Int) : AS := { s with ws := (bkShort s.ws row).2, cut := s.cut + pcN (bkPack s.ws row), queue := s.queue ++ newP s.cut (bkPack s.ws row) }
theorem abs_hand {S : LkS} {ns : List Int} {P' : List WP} {new : List PT} (h : PcsOf S.cut (bkPack (wsOf S.P) ns) (pcN (bkPack (wsOf S.P) ns)) new) (e : wsOf P' = (bkShort (wsOf S.P) ns).2) : absS { S with P := P', cut := S.cut + new.length, queue := S.queue ++ new } = aHand (absS S) ns := by
  unfold absS aHand
  dsimp only
  rw [e, h.len, List.map_append, pcs_abs h]
def aFr (s : AS) : Option (List Int) × AS := match frMove s.queue s.sent with
  | some (q, s', x) => (some (headL ((x.place : Int) % 8) ((s.place : Int) % 8) 1 x.last ++ x.bits), { s with queue := q, sent := s' ++ [x], owes := false })
  | none => (if s.owes = true then some (headL 0 ((s.place : Int) % 8) 0 0) else none, { s with owes := false })
theorem abs_frame {S : LkS} {q' s' : List PT} {o : Option (List Int)} (f : FrR S q' s' o) : aFr (absS S) = (o, absS { S with queue := q', sent := s', owes := false }) := by
  unfold aFr absS
  dsimp only
  rw [frMove_c]
  rcases f with ⟨s0, x, em, rfl, rfl⟩ | ⟨em, rfl, rfl, rfl⟩
  · rw [em]
    show _ = ((some _, _) : Option (List Int) × AS)
    rw [List.map_append]
    rfl
  · rw [em]
    rfl
theorem kGet_c (ks : List KT) (k : Nat) : kGet (ks.map cK) k = (kGet ks k).map cK := by
  unfold kGet
  rw [List.find?_map]
  rfl
theorem kDrop_c (ks : List KT) (k : Nat) : kDrop (ks.map cK) k = (kDrop ks k).map cK := by
  unfold kDrop
  rw [List.filter_map]
  rfl
theorem inPut_c {ks : List KT} {place : Nat} {num last : Int} {t pa : Addr} {bits : List Int} : inPut (ks.map cK) place num last 0 0 bits = (inPut ks place num last t pa bits).map cK := by
  unfold inPut
  rw [kGet_c]
  by_cases h : ((num - (place : Int)) % 8).toNat < 4 ∧ kGet ks (place + ((num - (place : Int)) % 8).toNat) = none
  · rw [if_pos h, if_pos ⟨h.1, by rw [h.2]; rfl⟩, List.map_append]
    rfl
  · rw [if_neg h, if_neg]
    intro z
    refine h ⟨z.1, ?_⟩
    cases e : kGet ks (place + ((num - (place : Int)) % 8).toNat) with
    | none => rfl
    | some x =>
      rw [e] at z
      cases z.2
def cO : InO → InO
  | .ok ws p ks bg rows => .ok ws p (ks.map cK) bg rows
  | .bad e => .bad e
theorem inGo_c : ∀ (n : Nat) (ws : Wds) (p : Nat) (ks : List KT) (bg : List Int) (rows : List (List Int)), inGo n ws p (ks.map cK) bg rows = cO (inGo n ws p ks bg rows)
  | 0, _, _, _, _, _ => rfl
  | n + 1, ws, p, ks, bg, rows => by
    unfold inGo
    rw [kGet_c]
    cases e : kGet ks p with
    | none => rfl
    | some x =>
      show (if x.last = 1 then _ else _) = cO (if x.last = 1 then _ else _)
      rw [kDrop_c]
      by_cases h : x.last = 1
      · rw [if_pos h, if_pos h]
        show (match bkUnpack ws (bg ++ x.bits) with | .ok row ws' => inGo n ws' (p + 1) ((kDrop ks p).map cK) [] (rows ++ [row]) | e => .bad e) = cO (match bkUnpack ws (bg ++ x.bits) with | .ok row ws' => inGo n ws' (p + 1) (kDrop ks p) [] (rows ++ [row]) | e => .bad e)
        cases bkUnpack ws (bg ++ x.bits) with
        | ok row ws' => exact inGo_c n _ _ _ _ _
        | frame a => rfl
        | long => rfl
        | code a => rfl
      · rw [if_neg h, if_neg h]
        exact inGo_c n _ _ _ _ _
theorem ansL_c (ps : List PT) (ms : List Int) (a : Int) : ansL (ps.map cP) ms a = (ansL ps ms a).map cP := by
  unfold ansL
  split
  · rfl
  split
  · rw [List.filter_map]
    rfl
  · rfl
def aTk (s : AS) (ns : List Int) : List (List Int) × AS :=
  if pCom ns = 1 then match inGo (s.kept.length + 2) s.iws s.place (inPut s.kept s.place (pNum ns) (pLast ns) 0 0 (ns.drop 8)) s.begun [] with
    | .ok ws p ks bg rows => (rows, { s with iws := ws, place := p, kept := ks, begun := bg, owes := true, sent := ansL s.sent (srtI s.sent) (pAns ns) })
    | .bad _ => ([], s)
  else ([], { s with sent := ansL s.sent (srtI s.sent) (pAns ns) })
theorem abs_take0 {S : LkS} {ns ms : List Int} (h : SrtP S.sent ms) (c : ¬ pCom ns = 1) : aTk (absS S) ns = ([], absS { S with sent := ansL S.sent ms (pAns ns) }) := by
  unfold aTk absS
  rw [if_neg c]
  dsimp only
  rw [srtI_c, ← srt_is h, ansL_c]
theorem abs_take1 {S : LkS} {ns ms : List Int} {t pa : Addr} {ws : Wds} {p' : Nat} {ks' : List KT} {bg' : List Int} {rows : List (List Int)} {iP' : List WP} (h : SrtP S.sent ms) (c : pCom ns = 1) (e : inGo (S.kept.length + 2) (wsOf S.iP) S.place (inPut S.kept S.place (pNum ns) (pLast ns) t pa (ns.drop 8)) S.begun [] = .ok ws p' ks' bg' rows) (ew : wsOf iP' = ws) :
    aTk (absS S) ns = (rows, absS { S with iP := iP', place := p', kept := ks', begun := bg', owes := true, sent := ansL S.sent ms (pAns ns) }) := by
  unfold aTk absS
  rw [if_pos c]
  dsimp only
  rw [List.length_map, inPut_c (t := t) (pa := pa), inGo_c, e, srtI_c, ← srt_is h, ansL_c, ew]
  rfl
abbrev StV : Type := Int × List Int × Int × Bool
def aSt (s : AS) : StV := ((s.queue.length : Int), (srtI s.sent).map (fun z => z % 8), (s.place : Int) % 8, decide (s.queue.length = 0 ∧ s.sent.length = 0))
theorem aSt_abs {S : LkS} {ms : List Int} (h : SrtP S.sent ms) : aSt (absS S) = ((S.queue.length : Int), ms.map (fun z => z % 8), (S.place : Int) % 8, decide (S.queue.length = 0 ∧ S.sent.length = 0)) := by
  unfold aSt absS
  dsimp only
  rw [srtI_c, ← srt_is h, List.length_map, List.length_map]
/-! ### one way between two links -/
theorem PosR.more {rws : List (List Int)} {p j : Nat} {ws : Wds} {bg : List Int} {r : List Int} (h : PosR rws p j ws bg) : PosR (rws ++ [r]) p j ws bg := by
  have hj := h.jl
  refine ⟨by rw [List.length_append]; omega, by rw [endN_old hj]; exact h.lo, fun _ => ?_, fun e => ?_, ?_, ?_⟩
  · rcases Nat.lt_or_ge j rws.length with z | z
    · rw [endN_old (by omega)]
      exact h.hi z
    · have e : j = rws.length := Nat.le_antisymm hj z
      have e2 := h.eq e
      have := endN_lt (rws ++ [r]) j
      rw [endN_old hj] at this
      omega
  · rw [List.length_append] at e
    have : j = rws.length + 1 := e
    omega
  · rw [List.take_append_of_le_length hj]
    exact h.ws
  · rcases Nat.lt_or_ge j rws.length with z | z
    · rw [bitsN_old z, endN_old hj]
      exact h.bg
    · have e : j = rws.length := Nat.le_antisymm hj z
      have e2 := h.eq e
      rw [endN_old hj, h.bg, e2, Nat.sub_self]
      rfl
theorem W43.more {rws : List (List Int)} {qs : List QT} {iws : Wds} {place : Nat} {kept : List KT} {begun : List Int} {th : List Nat} {r : List Int} {new : List QT} (h : W43 rws qs iws place kept begun th) (hn : QcsOf (bkPack (wsN rws) r) (pcN (bkPack (wsN rws) r)) new) (hr : Bytes r ∧ r.length ≤ 60) : W43 (rws ++ [r]) (qs ++ new) iws place kept begun th := by
  refine ⟨h.qok.more hn, fun x hx => ?_, ?_, fun x hx => ?_, h.kr, h.nd, h.tk, h.no⟩
  · rcases List.mem_append.mp hx with z | z
    · exact h.byt x z
    · rw [List.mem_singleton.mp z]
      exact hr
  · obtain ⟨j, hp⟩ := h.pos
    exact ⟨j, hp.more⟩
  · obtain ⟨q, e, r⟩ := h.kq x hx
    exact ⟨q, by rw [List.getElem?_append_left (List.getElem?_eq_some_iff.mp e).1]; exact e, r⟩
structure HalfP (m : Nat) (S R : LkS) (rws : List (List Int)) (qs : List QT) (bse snt : Nat) (th : List Nat) : Prop where
  w : W43 rws qs (wsOf R.iP) R.place R.kept R.begun th
  ws : wsOf S.P = wsN rws
  cut : S.cut = qs.length
  qp : S.queue.map (fun p => p.place) = List.range' snt (qs.length - snt)
  perm : (S.sent.map fun p => p.place).Perm (List.range' bse (snt - bse))
  bs : bse ≤ snt
  sn : snt ≤ qs.length
  win : snt ≤ bse + 4
  pc : ∀ p ∈ S.queue ++ S.sent, ∃ q : QT, qs[p.place]? = some q ∧ q.last = p.last ∧ q.bits = p.bits
  lo : bse ≤ R.place
  hi : R.place ≤ snt
  tl : ∀ k ∈ th, k < snt
  rl : rws.length ≤ m
def Half (m : Nat) (S R : LkS) : Prop := ∃ rws qs bse snt th, HalfP m S R rws qs bse snt th
section
variable {m : Nat} {S R : LkS} {rws : List (List Int)} {qs : List QT} {bse snt : Nat} {th : List Nat}
theorem HalfP.slen (h : HalfP m S R rws qs bse snt th) : S.sent.length = snt - bse := by
  have := h.perm.length_eq
  rwa [List.length_map, List.length_range'] at this
theorem HalfP.w61 (h : HalfP m S R rws qs bse snt th) : W61 (wsOf S.P) := by
  rw [h.ws]
  exact w61_fold _ _ w61_nil fun r hr => (h.w.byt r hr).2
theorem HalfP.bits (h : HalfP m S R rws qs bse snt th) : ∀ p ∈ S.queue ++ S.sent, p.bits.length ≤ 40 := fun p hp => by
  obtain ⟨q, e, _, e2⟩ := h.pc p hp
  rw [← e2]
  exact (qs_ok h.w.qok q (List.mem_of_getElem? e)).2.2.1
theorem HalfP.mono {m' : Nat} (h : HalfP m S R rws qs bse snt th) (hm : m ≤ m') : HalfP m' S R rws qs bse snt th := ⟨h.w, h.ws, h.cut, h.qp, h.perm, h.bs, h.sn, h.win, h.pc, h.lo, h.hi, h.tl, Nat.le_trans h.rl hm⟩
theorem HalfP.cg {S' R' : LkS} (h : HalfP m S R rws qs bse snt th) (e1 : S'.P = S.P) (e2 : S'.cut = S.cut) (e3 : S'.queue = S.queue) (e4 : S'.sent = S.sent) (e5 : R'.iP = R.iP) (e6 : R'.place = R.place) (e7 : R'.kept = R.kept) (e8 : R'.begun = R.begun) : HalfP m S' R' rws qs bse snt th :=
  ⟨by rw [e5, e6, e7, e8]; exact h.w, by rw [e1]; exact h.ws, by rw [e2]; exact h.cut, by rw [e3]; exact h.qp, by rw [e4]; exact h.perm, h.bs, h.sn, h.win, by rw [e3, e4]; exact h.pc, by rw [e6]; exact h.lo, by rw [e6]; exact h.hi, h.tl, h.rl⟩
abbrev toQ (p : PT) : QT := ⟨0, 0, p.last, p.bits⟩
theorem pcs_q {cut : Nat} {bs : List Int} {n : Nat} {new : List PT} (h : PcsOf cut bs n new) : QcsOf bs n (new.map toQ) := ⟨by rw [List.length_map]; exact h.len, fun j p hp => by
  rw [List.getElem?_map] at hp
  cases e : new[j]? with
  | none =>
    rw [e] at hp
    cases hp
  | some x =>
    rw [e] at hp
    cases hp
    exact (h.all j x e).2⟩
theorem HalfP.hand {r : List Int} {P' : List WP} {new : List PT} (h : HalfP m S R rws qs bse snt th) (hn : PcsOf S.cut (bkPack (wsOf S.P) r) (pcN (bkPack (wsOf S.P) r)) new) (ew : wsOf P' = (bkShort (wsOf S.P) r).2) (hr : Bytes r ∧ r.length ≤ 60) :
    HalfP (m + 1) { S with P := P', cut := S.cut + new.length, queue := S.queue ++ new } R (rws ++ [r]) (qs ++ new.map toQ) bse snt th := by
  have hsn := h.sn
  have hc := h.cut
  have hpl : (qs ++ new.map toQ).length = qs.length + new.length := by rw [List.length_append, List.length_map]
  have hq := pcs_q hn
  rw [h.ws] at hq ew
  refine ⟨h.w.more hq hr, ?_, ?_, ?_, h.perm, h.bs, by omega, h.win, fun p hp => ?_, h.lo, h.hi, h.tl, by rw [List.length_append]; exact Nat.succ_le_succ h.rl⟩
  · show wsOf P' = _
    rw [ew, wsN_snoc]
  · show S.cut + new.length = _
    rw [hpl, hc]
  · show (S.queue ++ new).map _ = _
    rw [List.map_append, h.qp, pcs_place hn, hc, hpl, hn.len, show qs.length + pcN (bkPack (wsOf S.P) r) - snt = (qs.length - snt) + pcN (bkPack (wsOf S.P) r) by omega, ← List.range'_append_1, show snt + (qs.length - snt) = qs.length by omega]
  · have old : p ∈ S.queue ++ S.sent → ∃ q : QT, (qs ++ new.map toQ)[p.place]? = some q ∧ q.last = p.last ∧ q.bits = p.bits := fun hp => by
      obtain ⟨q, e, r⟩ := h.pc p hp
      exact ⟨q, by rw [List.getElem?_append_left (List.getElem?_eq_some_iff.mp e).1]; exact e, r⟩
    have hp : p ∈ (S.queue ++ new) ++ S.sent := hp
    rcases List.mem_append.mp hp with hp | hp
    · rcases List.mem_append.mp hp with hp | hp
      · exact old (List.mem_append_left _ hp)
      · obtain ⟨j, hj⟩ := List.getElem?_of_mem hp
        obtain ⟨x1, x2, x3⟩ := hn.all j p hj
        refine ⟨toQ p, ?_, rfl, rfl⟩
        rw [x1, hc, List.getElem?_append_right (by omega), show qs.length + j - qs.length = j by omega, List.getElem?_map, hj]
        rfl
    · exact old (List.mem_append_right _ hp)
/-- what a link tells -/
def Sent (m : Nat) (S R : LkS) (ns : List Int) : Prop := ∃ rws qs bse snt th, HalfP m S R rws qs bse snt th ∧ (ns = headL 0 ((S.place : Int) % 8) 0 0 ∨ ∃ (x : Nat) (q : QT), bse ≤ x ∧ x < snt ∧ qs[x]? = some q ∧ ns = headL ((x : Int) % 8) ((S.place : Int) % 8) 1 q.last ++ q.bits)
theorem HalfP.frame {q' s' : List PT} {o : Option (List Int)} (h : HalfP m S R rws qs bse snt th) (f : FrR S q' s' o) : Half m { S with queue := q', sent := s', owes := false } R ∧ ∀ ns, o = some ns → Sent m { S with queue := q', sent := s', owes := false } R ns := by
  have hl := h.slen
  have hbs := h.bs
  have hsn := h.sn
  have hwn := h.win
  have hhi := h.hi
  have hqp := h.qp
  suffices g : ∃ snt', HalfP m { S with queue := q', sent := s', owes := false } R rws qs bse snt' th ∧ ∀ ns, o = some ns → (ns = headL 0 ((S.place : Int) % 8) 0 0 ∨ ∃ (x : Nat) (q : QT), bse ≤ x ∧ x < snt' ∧ qs[x]? = some q ∧ ns = headL ((x : Int) % 8) ((S.place : Int) % 8) 1 q.last ++ q.bits) by
    obtain ⟨snt', g1, g2⟩ := g
    exact ⟨⟨_, _, _, _, _, g1⟩, fun ns e => ⟨_, _, _, _, _, g1, g2 ns e⟩⟩
  have piece : ∀ (x : PT) (snt' : Nat) (ns : List Int), x ∈ S.queue ++ S.sent → bse ≤ x.place → x.place < snt' → some (headL ((x.place : Int) % 8) ((S.place : Int) % 8) 1 x.last ++ x.bits) = some ns → (ns = headL 0 ((S.place : Int) % 8) 0 0 ∨ ∃ (x : Nat) (q : QT), bse ≤ x ∧ x < snt' ∧ qs[x]? = some q ∧ ns = headL ((x : Int) % 8) ((S.place : Int) % 8) 1 q.last ++ q.bits) := fun x snt' ns hx h1 h2 e => by
    obtain ⟨q, e1, e2, e3⟩ := h.pc x hx
    refine .inr ⟨x.place, q, h1, h2, e1, ?_⟩
    rw [e2, e3]
    exact (Option.some.inj e).symm
  have rot : ∀ (y : PT) (s1 : List PT), S.sent = y :: s1 → q' = S.queue → s' = s1 ++ [y] → o = some (headL ((y.place : Int) % 8) ((S.place : Int) % 8) 1 y.last ++ y.bits) → ∃ snt', HalfP m { S with queue := q', sent := s', owes := false } R rws qs bse snt' th ∧ ∀ ns, o = some ns → (ns = headL 0 ((S.place : Int) % 8) 0 0 ∨ ∃ (x : Nat) (q : QT), bse ≤ x ∧ x < snt' ∧ qs[x]? = some q ∧ ns = headL ((x : Int) % 8) ((S.place : Int) % 8) 1 q.last ++ q.bits) := fun y s1 e eq es eo => by
    subst eq es eo
    have pm := h.perm
    rw [e] at pm
    have hy : y ∈ S.sent := by rw [e]; exact .head _
    have hm : y.place ∈ List.range' bse (snt - bse) := pm.mem_iff.mp (List.mem_map.mpr ⟨y, .head _, rfl⟩)
    rw [List.mem_range'_1] at hm
    refine ⟨snt, ⟨h.w, h.ws, h.cut, h.qp, ?_, h.bs, h.sn, h.win, fun p hp => ?_, h.lo, h.hi, h.tl, h.rl⟩, fun ns en => piece y snt ns (List.mem_append_right _ hy) hm.1 (by omega) en⟩
    · refine List.Perm.trans (List.Perm.map _ ?_) pm
      exact List.perm_append_comm (l₁ := s1) (l₂ := [y])
    · refine h.pc p ?_
      have hp : p ∈ S.queue ++ (s1 ++ [y]) := hp
      rw [e]
      rcases List.mem_append.mp hp with z | z
      · exact List.mem_append_left _ z
      · refine List.mem_append_right _ ?_
        rcases List.mem_append.mp z with z | z
        · exact .tail _ z
        · rw [List.mem_singleton.mp z]
          exact .head _
  rcases f with ⟨s0, x, em, es, eo⟩ | ⟨em, eq, es, eo⟩
  · cases e1 : S.queue with
    | nil =>
      cases e2 : S.sent with
      | nil =>
        rw [e1, e2] at em
        cases em
      | cons y s1 =>
        rw [e1, e2] at em
        cases em
        exact rot x s0 e2 e1.symm es eo
    | cons x0 q0 =>
      rw [e1] at em
      have em : (if S.sent.length < 4 then some (q0, S.sent, x0) else (match S.sent with | y :: s' => some (x0 :: q0, s', y) | [] => none)) = some (q', s0, x) := em
      by_cases c : S.sent.length < 4
      · rw [if_pos c] at em
        cases em
        have hlt : snt < qs.length := by
          have := congrArg List.length hqp
          rw [List.length_map, List.length_range', e1, List.length_cons] at this
          omega
        obtain ⟨k, hk⟩ : ∃ k, qs.length - snt = k + 1 := ⟨qs.length - snt - 1, by omega⟩
        rw [e1, hk, List.range'_succ, List.map_cons] at hqp
        injection hqp with hx hqp
        subst es eo
        refine ⟨snt + 1, ⟨h.w, h.ws, h.cut, ?_, ?_, by omega, by omega, by omega, fun p hp => ?_, h.lo, by show R.place ≤ snt + 1; omega, fun k hk => Nat.lt_succ_of_lt (h.tl k hk), h.rl⟩, fun ns en => piece x (snt + 1) ns (by rw [e1]; exact List.mem_append_left _ (.head _)) (by omega) (by omega) en⟩
        · show q'.map _ = _
          rw [hqp]
          congr 1
          omega
        · show ((S.sent ++ [x]).map _).Perm _
          rw [List.map_append, show snt + 1 - bse = (snt - bse) + 1 by omega, List.range'_1_concat, show bse + (snt - bse) = snt by omega]
          show (_ ++ [x.place]).Perm _
          rw [hx]
          exact h.perm.append_right _
        · refine h.pc p ?_
          have hp : p ∈ q' ++ (S.sent ++ [x]) := hp
          rw [e1]
          rcases List.mem_append.mp hp with z | z
          · exact List.mem_append_left _ (.tail _ z)
          · rcases List.mem_append.mp z with z | z
            · exact List.mem_append_right _ z
            · rw [List.mem_singleton.mp z]
              exact List.mem_append_left _ (.head _)
      · rw [if_neg c] at em
        cases e2 : S.sent with
        | nil =>
          rw [e2] at c
          exact absurd (by decide) c
        | cons y s1 =>
          rw [e2] at em
          cases em
          exact rot x s0 e2 e1.symm es eo
  · subst eq es
    refine ⟨snt, h.cg rfl rfl rfl rfl rfl rfl rfl rfl, fun ns en => .inl ?_⟩
    rw [eo] at en
    split at en
    · exact (Option.some.inj en).symm
    · cases en
theorem HalfP.take (h : HalfP m S R rws qs bse snt th) {x : Nat} {q : QT} (h1 : bse ≤ x) (h2 : x < snt) (hq : qs[x]? = some q) (t pa : Addr) :
    ∃ (p' : Nat) (ws' : Wds) (bg' : List Int) (rows : List (List Int)), inGo (R.kept.length + 2) (wsOf R.iP) R.place (inPut R.kept R.place ((x : Int) % 8) q.last t pa q.bits) R.begun [] = .ok ws' p' ((inPut R.kept R.place ((x : Int) % 8) q.last t pa q.bits).filter fun x => decide (x.key < R.place ∨ p' ≤ x.key)) bg' rows ∧ rows.length ≤ m ∧ (∀ r ∈ rows, r.length ≤ 60) ∧
      ∀ (R' : LkS), wsOf R'.iP = ws' → R'.place = p' → R'.kept = ((inPut R.kept R.place ((x : Int) % 8) q.last t pa q.bits).filter fun x => decide (x.key < R.place ∨ p' ≤ x.key)) → R'.begun = bg' → Half m S R' := by
  have hlo := h.lo
  have hhi := h.hi
  have hwn := h.win
  obtain ⟨p', j, j', ws', bg', e, w', hp, hin, hno, hj, hj2, _⟩ := h.w.take (th1 := if R.place ≤ x then x :: th else th) hq (by omega) (by omega) (sg := q.bits) (fun _ _ => rfl) (fun k => by
    by_cases z : R.place ≤ x
    · rw [if_pos z, List.mem_cons]
      exact ⟨fun y => y.elim (fun y => .inr ⟨z, y⟩) .inl, fun y => y.elim .inr fun y => .inl y.2⟩
    · rw [if_neg z]
      exact ⟨.inl, fun y => y.elim id fun y => absurd y.1 z⟩) t pa
  have htl : ∀ k ∈ (if R.place ≤ x then x :: th else th), k < snt := fun k hk => by
    split at hk
    · rcases List.mem_cons.mp hk with rfl | hk
      · exact h2
      · exact h.tl k hk
    · exact h.tl k hk
  refine ⟨p', ws', bg', _, e, ?_, fun r hr => ?_, fun R' a1 a2 a3 a4 => ?_⟩
  · rw [List.length_map, List.length_range']
    have := h.rl
    omega
  · obtain ⟨i, hi, rfl⟩ := List.mem_map.mp hr
    unfold rowAt
    rw [List.getD_eq_getElem?_getD]
    cases e : rws[i]? with
    | none => exact Nat.zero_le _
    | some r => exact (h.w.byt r (List.mem_of_getElem? e)).2
  · have hps : p' ≤ snt := by
      rcases Nat.lt_or_ge snt p' with z | z
      · have := htl snt (hin snt (by omega) z)
        omega
      · exact z
    exact ⟨_, _, _, _, _, ⟨by rw [a1, a2, a3, a4]; exact w', h.ws, h.cut, h.qp, h.perm, h.bs, h.sn, h.win, h.pc, by rw [a2]; omega, by rw [a2]; exact hps, htl, h.rl⟩⟩
theorem HalfP.ans {ms : List Int} (h : HalfP m S R rws qs bse snt th) (hm : SrtP S.sent ms) : ∀ (S' : LkS), S'.P = S.P → S'.cut = S.cut → S'.queue = S.queue → S'.sent = ansL S.sent ms ((R.place : Int) % 8) → Half m S' R := by
  have hlo := h.lo
  have hhi := h.hi
  have hwn := h.win
  have hl := h.slen
  have em : ms = (List.range' bse (snt - bse)).map fun n => ((n : Nat) : Int) := by
    have p1 : ms.Perm ((List.range' bse (snt - bse)).map fun n => ((n : Nat) : Int)) := by
      have e : S.sent.map (fun p => (p.place : Int)) = (S.sent.map fun p => p.place).map fun n => ((n : Nat) : Int) := by rw [List.map_map]; rfl
      have := hm.perm
      rw [e] at this
      exact this.trans (h.perm.map _)
    refine List.Perm.eq_of_pairwise (le := fun a b : Int => a ≤ b) (fun a b _ _ h1 h2 => Int.le_antisymm h1 h2) hm.up ?_ p1
    rw [List.pairwise_map]
    exact (List.pairwise_lt_range' (s := bse) (n := snt - bse)).imp (fun {a b} (h : a < b) => by omega)
  intro S' a1 a2 a3 a4
  have fin : (S'.sent.map fun p => p.place).Perm (List.range' R.place (snt - R.place)) → (∀ p ∈ S'.sent, p ∈ S.sent) → Half m S' R := fun hpm hsub => ⟨rws, qs, R.place, snt, th, ⟨h.w, by rw [a1]; exact h.ws, by rw [a2]; exact h.cut, by rw [a3]; exact h.qp, hpm, hhi, h.sn, by omega, fun p hp => h.pc p (by
    rw [a3] at hp
    rcases List.mem_append.mp hp with z | z
    · exact List.mem_append_left _ z
    · exact List.mem_append_right _ (hsub p z)), Nat.le_refl _, hhi, h.tl, h.rl⟩⟩
  by_cases z : snt = bse
  · have e0 : ms = [] := by rw [em, z, Nat.sub_self]; rfl
    have es : S.sent = [] := List.eq_nil_of_length_eq_zero (by omega)
    have e1 : ansL S.sent ms ((R.place : Int) % 8) = [] := by unfold ansL; rw [if_pos e0, es]
    rw [e1] at a4
    refine fin ?_ ?_
    · rw [a4, show snt - R.place = 0 by omega]
      exact List.Perm.refl _
    · rw [a4]
      exact fun p hp => absurd hp List.not_mem_nil
  · obtain ⟨k, hk⟩ : ∃ k, snt - bse = k + 1 := ⟨snt - bse - 1, by omega⟩
    have e0 : ms ≠ [] := by rw [em, hk]; exact fun z => nomatch z
    have e2 : ms.getD 0 0 = (bse : Int) := by rw [em, hk]; rfl
    have e3 : ms.length = snt - bse := by rw [em, List.length_map, List.length_range']
    have ho : ((R.place : Int) % 8 - (bse : Int)) % 8 = ((R.place - bse : Nat) : Int) := by omega
    have ea : ansL S.sent ms ((R.place : Int) % 8) = S.sent.filter ((fun f => decide (bse + (R.place - bse) ≤ f)) ∘ fun p => p.place) := by
      unfold ansL
      rw [if_neg e0, e2, e3, ho, if_pos (by omega)]
      congr 1
      funext p
      show decide _ = decide _
      congr 1
      exact propext ⟨fun (h : (bse : Int) + ((R.place - bse : Nat) : Int) ≤ ((p.place : Nat) : Int)) => (by omega : bse + (R.place - bse) ≤ p.place), fun (h : bse + (R.place - bse) ≤ p.place) => (by omega : (bse : Int) + ((R.place - bse : Nat) : Int) ≤ ((p.place : Nat) : Int))⟩
    rw [ea] at a4
    refine fin ?_ ?_
    · rw [a4, ← List.filter_map, show List.range' R.place (snt - R.place) = List.range' (bse + (R.place - bse)) (snt - bse - (R.place - bse)) by congr 1 <;> omega, ← filter_range' _ _ _ (by omega)]
      exact h.perm.filter _
    · rw [a4]
      exact fun p hp => (List.mem_filter.mp hp).1
end
theorem Half.mono {m m' : Nat} {S R : LkS} (h : Half m S R) (hm : m ≤ m') : Half m' S R := by
  obtain ⟨_, _, _, _, _, h⟩ := h
  exact ⟨_, _, _, _, _, h.mono hm⟩
theorem Half.cg {m : Nat} {S R S' R' : LkS} (h : Half m S R) (e1 : S'.P = S.P) (e2 : S'.cut = S.cut) (e3 : S'.queue = S.queue) (e4 : S'.sent = S.sent) (e5 : R'.iP = R.iP) (e6 : R'.place = R.place) (e7 : R'.kept = R.kept) (e8 : R'.begun = R.begun) : Half m S' R' := by
  obtain ⟨_, _, _, _, _, h⟩ := h
  exact ⟨_, _, _, _, _, h.cg e1 e2 e3 e4 e5 e6 e7 e8⟩
theorem Half.start : Half 0 ⟨[], 0, [], [], false, [], 0, [], []⟩ ⟨[], 0, [], [], false, [], 0, [], []⟩ := ⟨[], [], 0, 0, [], ⟨W43.start QsOk.nil (fun r hr => absurd hr List.not_mem_nil), rfl, rfl, rfl, List.Perm.refl _, Nat.le_refl _, Nat.le_refl _, by decide, (fun p hp => absurd hp List.not_mem_nil), Nat.le_refl _, Nat.le_refl _, (fun k hk => absurd hk List.not_mem_nil), Nat.le_refl _⟩⟩
/-! ### a list of links, the pools of their pieces, and what is done with one of them -/
structure LX where
  A : LA
  S : LkS
abbrev tX (CB CI CL : Addr) (x : LX) : Th := tLk CB CI CL x.A x.S
abbrev refsX (X : List LX) : List L2.V := X.map fun x => .ref x.A.r
structure LOk (L : List (Addr × List L2.V)) (po : List PT) (pl : List (Addr × List Int)) (x : LX) : Prop where
  kP : ∀ q ∈ knW x.S.P, q ∈ L
  kI : ∀ q ∈ knW x.S.iP, q ∈ L
  kK : ∀ q ∈ knK x.S.kept, q ∈ L
  po : ∀ p ∈ x.S.queue ++ x.S.sent, p ∈ po
  pl : ∀ z ∈ x.S.kept, (z.ba, z.bits) ∈ pl
theorem LOk.mono {L L' : List (Addr × List L2.V)} {po po' : List PT} {pl pl' : List (Addr × List Int)} {x : LX} (h : LOk L po pl x) (hL : ∀ q ∈ L, q ∈ L') (hp : ∀ p ∈ po, p ∈ po') (hl : ∀ z ∈ pl, z ∈ pl') : LOk L' po' pl' x := ⟨fun q hq => hL q (h.kP q hq), fun q hq => hL q (h.kI q hq), fun q hq => hL q (h.kK q hq), fun p hp' => hp p (h.po p hp'), fun z hz => hl _ (h.pl z hz)⟩
def KP (L : List (Addr × List L2.V)) (po : List PT) : Prop := ∀ p ∈ po, (p.t, ptV p) ∈ L
theorem Hw.prm {K : PySem.W.Frag} {L : List (Addr × List L2.V)} {T0 : List (Addr × Str)} {Ts Us : List Th} {H : Hp} (h : Hw K L T0 Ts H) (p : Ts.Perm Us) : Hw K L T0 Us H := ⟨h.hs.perm p, h.tf⟩
theorem pick_succ (x : Th) (As : List Th) : ∀ is : List Nat, pickTs (x :: As) (is.map Nat.succ) = pickTs As is
  | [] => rfl
  | i :: r => by
    show (match (x :: As)[i + 1]? with | some y => y :: pickTs (x :: As) (r.map Nat.succ) | none => pickTs (x :: As) (r.map Nat.succ)) = _
    rw [pick_succ x As r]
    rfl
theorem Hw.selR {K : PySem.W.Frag} {L : List (Addr × List L2.V)} {T0 : List (Addr × Str)} {As Ro : List Th} {H : Hp} (h : Hw K L T0 (As ++ Ro) H) (is : List Nat) (hn : is.Nodup) : Hw K L T0 (pickTs As is ++ Ro) H := by
  have h1 : Hw K L T0 (tG Ro :: As) H := Hw.grp (As := Ro) (h.prm List.perm_append_comm)
  have n0 : ¬ 0 ∈ is.map Nat.succ := fun z => by
    obtain ⟨i, _, e⟩ := List.mem_map.mp z
    cases e
  have hn2 : (0 :: is.map Nat.succ).Nodup := List.nodup_cons.mpr ⟨n0, List.pairwise_map.mpr (List.Pairwise.imp (fun {a b} h e => h (Nat.succ.inj e)) hn)⟩
  have h2 : Hw K L T0 (tG Ro :: pickTs (tG Ro :: As) (is.map Nat.succ)) H := h1.sel (0 :: is.map Nat.succ) hn2
  rw [pick_succ] at h2
  exact (Hw.ungrp (As := Ro) h2).prm List.perm_append_comm
theorem prm3 {a b c : Th} {r : List Th} : (a :: b :: c :: r).Perm (c :: b :: a :: r) :=
  (List.Perm.swap b a (c :: r)).trans ((List.Perm.cons b (List.Perm.swap c a r)).trans (List.Perm.swap c b (a :: r)))
section
variable {K : PySem.W.Frag} {L : List (Addr × List L2.V)} {T0 : List (Addr × Str)} {B : Th} {Ro : List Th} {X : List LX} {po : List PT} {pl : List (Addr × List Int)} {j : Nat} {x : LX} {H : Hp} {CB CI CL : Addr} {Q : VK} {E : XK} {m : Nat}
theorem lx_ins (h : (tX CB CI CL x).P H) : H x.A.r = some (.ins CL x.A.dx (lkF x.A.br x.A.i (x.S.cut : Int) x.A.q x.A.s x.S.owes)) := by
  have h : Hs [] (lkTs CB CI CL x.A x.S) H := h
  exact h.at 0 rfl
theorem LOk.tsent (ok : LOk L po pl x) (kp : KP L po) (tf : TF K L H) : TF K (knP x.S.sent) H := fun q hq => by
  obtain ⟨p, hp, rfl⟩ := List.mem_map.mp hq
  exact tf _ (kp p (ok.po p (List.mem_append_right _ hp)))
theorem use_hand {cY cL cU a : Addr} {ns : List Int} {Y : LkS} (h : Hw K L T0 (B :: tG (X.map (tX CB CI CL)) :: tG (po.map fN) :: tG (pl.map fR) :: Ro) H) (hj : X[j]? = some x) (ok : LOk L po pl x) (kp : KP L po) (hh : Half m x.S Y) (hq : x.S.queue.length < 40) (hS : SqL K H a (ns.map L2.V.int)) (hb : Bytes ns) (hl : ns.length ≤ 60)
    (q : ∀ (H' : Hp) (x' : LX) (L' : List (Addr × List L2.V)) (po' : List PT), x'.A.r = x.A.r → absS x'.S = aHand (absS x.S) ns → Half (m + 1) x'.S Y → (∀ n Z, Half n Z x.S → Half n Z x'.S) → LOk L' po' pl x' → KP L' po' → (∀ q ∈ L, q ∈ L') → (∀ p ∈ po, p ∈ po') → Hw K L' T0 (B :: tG ((X.set j x').map (tX CB CI CL)) :: tG (po'.map fN) :: tG (pl.map fR) :: Ro) H' → Q .non H') :
    spHand K CB CI CL cY cL cU [.ref x.A.r, .ref a] H Q E := by
  obtain ⟨rws, qs, bse, snt, th, hh⟩ := hh
  have hP : (tX CB CI CL x).P H := h.gget 1 rfl hj
  refine ⟨x.A, x.S, a, ns, rfl, hP, (fun q hq => h.tf q (ok.kP q hq)), hh.w61, hS, by omega, by omega, (fun _ _ _ H' br' bl' P' new hn ew tw tn u => ?_), (fun _ _ full => absurd full (by omega)), (fun _ big => absurd big (by omega)), (fun i z hz nz => absurd (hb z (List.mem_of_getElem? hz)) nz)⟩
  have g := ((h.gup (f := tX CB CI CL) (i := 1) (y' := ⟨{ x.A with br := br', bl := bl' }, { x.S with P := P', cut := x.S.cut + new.length, queue := x.S.queue ++ new }⟩) rfl hj (new.map fN) u.grpB).knows tn).knows tw
  have g2 := (Hw.mid (As := new.map fN) (Bs := B :: tG (po.map fN) :: tG (pl.map fR) :: Ro) g)
  have g3 := (Hw.gappI (f := fN) (Y := po) (Z := new) 2 g2 rfl).prm prm3
  refine q H' ⟨{ x.A with br := br', bl := bl' }, { x.S with P := P', cut := x.S.cut + new.length, queue := x.S.queue ++ new }⟩ _ _ rfl (abs_hand hn ew) ⟨_, _, _, _, _, hh.hand hn ew ⟨hb, hl⟩⟩ (fun n Z hz => hz.cg rfl rfl rfl rfl rfl rfl rfl rfl) ⟨fun q hq => List.mem_append_left _ hq, fun q hq => List.mem_append_right _ (List.mem_append_right _ (ok.kI q hq)), fun q hq => List.mem_append_right _ (List.mem_append_right _ (ok.kK q hq)), fun p hp => ?_, ok.pl⟩ (fun p hp => ?_) (fun q hq => List.mem_append_right _ (List.mem_append_right _ hq)) (fun p hp => List.mem_append_left _ hp) g3
  · have hp : p ∈ (x.S.queue ++ new) ++ x.S.sent := hp
    rcases List.mem_append.mp hp with z | z
    · rcases List.mem_append.mp z with z | z
      · exact List.mem_append_left _ (ok.po p (List.mem_append_left _ z))
      · exact List.mem_append_right _ z
    · exact List.mem_append_left _ (ok.po p (List.mem_append_right _ z))
  · rcases List.mem_append.mp hp with z | z
    · exact List.mem_append_right _ (List.mem_append_right _ (kp p z))
    · exact List.mem_append_right _ (List.mem_append_left _ (List.mem_map.mpr ⟨p, z, rfl⟩))
theorem use_frame {Y : LkS} (h : Hw K L T0 (B :: tG (X.map (tX CB CI CL)) :: tG (po.map fN) :: tG (pl.map fR) :: Ro) H) (hj : X[j]? = some x) (ok : LOk L po pl x) (kp : KP L po) (hh : Half m x.S Y)
    (q : ∀ (H' : Hp) (v : L2.V) (x' : LX) (o : Option (List Int)), x'.A.r = x.A.r → aFr (absS x.S) = (o, absS x'.S) → OV o v → Half m x'.S Y → (∀ ns, o = some ns → Sent m x'.S Y ns) → (∀ n Z, Half n Z x.S → Half n Z x'.S) → LOk L po pl x' → Hw K L T0 (B :: tG ((X.set j x').map (tX CB CI CL)) :: tG (po.map fN) :: tG (pl.map fR) :: tG (oTs o v) :: Ro) H' → Q v H') :
    spFrame K CB CI CL [.ref x.A.r] H Q E := by
  obtain ⟨rws, qs, bse, snt, th, hh⟩ := hh
  have hP : (tX CB CI CL x).P H := h.gget 1 rfl hj
  have hsl := hh.slen
  have hwn := hh.win
  have pok : PcOk K (tLk CB CI CL x.A x.S).ft (x.S.queue ++ x.S.sent) H := fun p hp => by
    obtain ⟨k, hk⟩ := List.getElem?_of_mem (ok.po p hp)
    have g : (fN p).P H := h.gget (f := fN) 2 rfl hk
    exact ⟨h.tf _ (kp p (ok.po p hp)), g.1, fun z => h.hs.sep 2 1 _ _ (by decide) rfl rfl p.ba (mem_tG.mpr ⟨p, ok.po p hp, .head _⟩) (mem_tG.mpr ⟨x, List.mem_of_getElem? hj, z⟩)⟩
  refine frame_use hP pok (fun p hp => by have := hh.bits p hp; omega) (by omega) (fun H' v q' s' o f ov u => ?_)
  have g := h.gup (f := tX CB CI CL) (i := 1) (y' := ⟨x.A, { x.S with queue := q', sent := s', owes := false }⟩) rfl hj (oTs o v) u.grpB
  have g2 := Hw.grp (As := oTs o v) (Hw.mid (As := oTs o v) (Bs := B :: tG (po.map fN) :: tG (pl.map fR) :: Ro) g)
  obtain ⟨w1, w2⟩ := hh.frame f
  refine q H' v ⟨x.A, { x.S with queue := q', sent := s', owes := false }⟩ o rfl (abs_frame f) ov w1 w2 (fun n Z hz => hz.cg rfl rfl rfl rfl rfl rfl rfl rfl) ⟨ok.kP, ok.kI, ok.kK, fun p hp => ok.po p (f.sub.1 p hp), ok.pl⟩ (g2.prm ?_)
  refine List.Perm.trans ?_ (List.Perm.swap _ _ _)
  refine List.Perm.trans (List.Perm.swap _ _ _) (List.Perm.cons _ ?_)
  refine List.Perm.trans (List.Perm.swap _ _ _) (List.Perm.cons _ ?_)
  refine List.Perm.trans (List.Perm.swap _ _ _) (List.Perm.cons _ ?_)
  exact List.Perm.swap _ _ _
theorem use_take {cB cF cL cC a : Addr} {ns : List Int} {S1 : LkS} (h : Hw K L T0 (B :: tG (X.map (tX CB CI CL)) :: tG (po.map fN) :: tG (pl.map fR) :: Ro) H) (hj : X[j]? = some x) (ok : LOk L po pl x) (kp : KP L po) (sn : Sent m S1 x.S ns) (back : Half m x.S S1) (hS : SqL K H a (ns.map L2.V.int))
    (q : ∀ (H' : Hp) (o : Addr) (x' : LX) (rs : List (Addr × List Int)) (L' : List (Addr × List L2.V)) (pl' : List (Addr × List Int)), x'.A.r = x.A.r → aTk (absS x.S) ns = (rs.map (fun r => r.2), absS x'.S) → Half m S1 x'.S → Half m x'.S S1 → rs.length ≤ m → (∀ r ∈ rs, r.2.length ≤ 60) → LOk L' po pl' x' → (∀ q ∈ L, q ∈ L') → (∀ z ∈ pl, z ∈ pl') → Hw K L' T0 (B :: tG ((X.set j x').map (tX CB CI CL)) :: tG (po.map fN) :: tG (pl'.map fR) :: tL o (refsR rs) :: tG (rs.map fR) :: Ro) H' → Q (.ref o) H') :
    spLkTake K CB CI CL cB cF cL cC [.ref x.A.r, .ref a] H Q E := by
  obtain ⟨rws, qs, bse, snt, th, hh, hn⟩ := sn
  obtain ⟨rwb, qsb, bsb, snb, thb, hb⟩ := back
  have hP : (tX CB CI CL x).P H := h.gget 1 rfl hj
  have hslb := hb.slen
  have hwnb := hb.win
  have hkl := hh.w.klen
  have hbg := hh.w.bg
  have kb : KbOk (tLk CB CI CL x.A x.S).ft x.S.kept H := fun z hz => by
    have hm := ok.pl z hz
    obtain ⟨k, hk⟩ := List.getElem?_of_mem hm
    have g : (fR (z.ba, z.bits)).P H := h.gget (f := fR) 3 rfl hk
    obtain ⟨qq, e1, _, e3⟩ := hh.w.kq z hz
    have := qs_ok hh.w.qok qq (List.mem_of_getElem? e1)
    rw [e3] at this
    exact ⟨g.1, fun y => h.hs.sep 3 1 _ _ (by decide) rfl rfl z.ba (mem_tG.mpr ⟨(z.ba, z.bits), hm, .head _⟩) (mem_tG.mpr ⟨x, List.mem_of_getElem? hj, y⟩), this.1, this.2.2.1⟩
  have hns : Bits ns ∧ 8 ≤ ns.length ∧ pForm ns = true ∧ ns.length ≤ 48 ∧ pAns ns = (S1.place : Int) % 8 := by
    rcases hn with rfl | ⟨xx, qq, _, _, e, rfl⟩
    · obtain ⟨a1, a2, a3, a4, a5⟩ := ansHead (z := (S1.place : Int) % 8) (by omega) (by omega)
      exact ⟨a1, by omega, a3, by omega, a5⟩
    · obtain ⟨b1, b2, b3, b4⟩ := qs_ok hh.w.qok qq (List.mem_of_getElem? e)
      obtain ⟨c1, c2, c3, c4, c5, c6, c7, c8⟩ := piece_head (n := (xx : Int) % 8) (a := (S1.place : Int) % 8) (by omega) (by omega) b4 b1
      refine ⟨c1, c2, c8 b2 b3, ?_, c5⟩
      rw [List.length_append, headL_len]
      omega
  obtain ⟨n1, n2, n3, n4, n5⟩ := hns
  refine ⟨x.A, x.S, a, ns, rfl, hP, ok.tsent kp h.tf, by omega, (fun q hq => h.tf q (ok.kI q hq)), (fun q hq => h.tf q (ok.kK q hq)), hh.w.w61, kb, hS, by omega, hbg.1, by omega, by omega, (fun _ _ _ c0 H' o p s' ms hms u => ?_), (fun _ _ _ c1 t pa => ⟨fun ws p' ks' bg' rows eok H' o i' idx' ibr' ibl' ik' ig' s' iP' rs ms hms hrs hws tw tk u => ?_, fun e ebad => ?_⟩), (fun _ z => ?_), (fun i z hz nz => absurd (n1 z (List.mem_of_getElem? hz)) nz)⟩
  · have g := h.gup (f := tX CB CI CL) (i := 1) (y' := ⟨{ x.A with s := s' }, { x.S with sent := ansL x.S.sent ms (pAns ns) }⟩) rfl hj [tL o [], tL p ((ns.drop 8).map V.int)] (u.grpB (Ns := [tL o [], tL p ((ns.drop 8).map V.int)]))
    have g1 : Hw K L T0 (tG ((X.set j ⟨{ x.A with s := s' }, { x.S with sent := ansL x.S.sent ms (pAns ns) }⟩).map (tX CB CI CL)) :: tL o [] :: tL p ((ns.drop 8).map V.int) :: B :: tG (po.map fN) :: tG (pl.map fR) :: Ro) H' := g
    have g2 := (g1.gnil (f := fR))
    have hans := hb.ans hms
    refine q H' o ⟨{ x.A with s := s' }, { x.S with sent := ansL x.S.sent ms (pAns ns) }⟩ [] L pl rfl (abs_take0 hms (by rw [c0]; decide)) ?_ ?_ (Nat.zero_le _) (fun r hr => absurd hr List.not_mem_nil) ⟨ok.kP, ok.kI, ok.kK, fun p hp => ok.po p ?_, ok.pl⟩ (fun _ h => h) (fun _ h => h) ?_
    · exact ⟨_, _, _, _, _, hh.cg rfl rfl rfl rfl rfl rfl rfl rfl⟩
    · exact hb.ans hms _ rfl rfl rfl (by show ansL x.S.sent ms (pAns ns) = _; rw [n5])
    · have hp : p ∈ x.S.queue ++ ansL x.S.sent ms (pAns ns) := hp
      rcases List.mem_append.mp hp with z | z
      · exact List.mem_append_left _ z
      · exact List.mem_append_right _ (ansL_sub p z)
    · have g3 : Hw K L T0 ([tG (([] : List (Addr × List Int)).map fR), tG ((X.set j ⟨{ x.A with s := s' }, { x.S with sent := ansL x.S.sent ms (pAns ns) }⟩).map (tX CB CI CL)), tL o [], tL p ((ns.drop 8).map V.int), B, tG (po.map fN), tG (pl.map fR)] ++ Ro) H' := g2
      have g4 : Hw K L T0 (tL p ((ns.drop 8).map V.int) :: [B, tG ((X.set j ⟨{ x.A with s := s' }, { x.S with sent := ansL x.S.sent ms (pAns ns) }⟩).map (tX CB CI CL)), tG (po.map fN), tG (pl.map fR), tL o [], tG (([] : List (Addr × List Int)).map fR)] ++ Ro) H' := g3.selR [3, 4, 1, 5, 6, 2, 0] (by decide)
      exact ⟨g4.hs.tail, g4.tf⟩
  · obtain ⟨xx, qq, h1, h2, hqq, e⟩ : ∃ (x : Nat) (q : QT), bse ≤ x ∧ x < snt ∧ qs[x]? = some q ∧ ns = headL ((x : Int) % 8) ((S1.place : Int) % 8) 1 q.last ++ q.bits := by
      rcases hn with rfl | z
      · obtain ⟨_, _, _, a4, _⟩ := ansHead (z := (S1.place : Int) % 8) (by omega) (by omega)
        rw [a4] at c1
        cases c1
      · exact z
    obtain ⟨b1, b2, b3, b4⟩ := qs_ok hh.w.qok qq (List.mem_of_getElem? hqq)
    obtain ⟨_, _, d8, dn, da, _, dl, _⟩ := piece_head (n := (xx : Int) % 8) (a := (S1.place : Int) % 8) (by omega) (by omega) b4 b1
    rw [← e] at d8 dn da dl
    obtain ⟨p2, ws2, bg2, rows2, e2, hrl, hr60, fin⟩ := hh.take h1 h2 hqq t pa
    have eok2 := eok
    rw [d8, dn, dl, e2] at eok2
    cases eok2
    obtain ⟨ks2, eks⟩ : ∃ ks2, ks2 = ((inPut x.S.kept x.S.place ((xx : Int) % 8) qq.last t pa qq.bits).filter fun z => decide (z.key < x.S.place ∨ p' ≤ z.key)) := ⟨_, rfl⟩
    rw [← eks] at eok fin tk u
    have g := ((h.gup (f := tX CB CI CL) (i := 1) (y' := ⟨{ x.A with i := i', idx := idx', ibr := ibr', ibl := ibl', ik := ik', ig := ig', s := s' }, { x.S with iP := iP', place := p', kept := ks2, begun := bg', owes := true, sent := ansL x.S.sent ms (pAns ns) }⟩) rfl hj (rs.map fR ++ [tL o (refsR rs), tL pa ((ns.drop 8).map V.int)]) (by
      have u2 : Up (tLk CB CI CL x.A x.S) ((rs.map fR ++ [tL o (refsR rs), tL pa ((ns.drop 8).map V.int)]) ++ lkTs CB CI CL { x.A with i := i', idx := idx', ibr := ibr', ibl := ibl', ik := ik', ig := ig', s := s' } { x.S with iP := iP', place := p', kept := ks2, begun := bg', owes := true, sent := ansL x.S.sent ms (pAns ns) }) H H' := by
        rw [List.append_assoc]
        exact u
      exact u2.grpB)).knows tk).knows tw
    obtain ⟨x', ex⟩ : ∃ x' : LX, x' = ⟨{ x.A with i := i', idx := idx', ibr := ibr', ibl := ibl', ik := ik', ig := ig', s := s' }, { x.S with iP := iP', place := p', kept := ks2, begun := bg', owes := true, sent := ansL x.S.sent ms (pAns ns) }⟩ := ⟨_, rfl⟩
    rw [← ex] at g
    have g1 : Hw K (knW iP' ++ (knK ks2 ++ L)) T0 (tG ((X.set j x').map (tX CB CI CL)) :: (rs.map fR ++ (tL o (refsR rs) :: tL pa ((ns.drop 8).map V.int) :: B :: tG (po.map fN) :: tG (pl.map fR) :: Ro))) H' := by
      have e : (rs.map fR ++ [tL o (refsR rs), tL pa ((ns.drop 8).map V.int)]) ++ (B :: tG (po.map fN) :: tG (pl.map fR) :: Ro) = rs.map fR ++ (tL o (refsR rs) :: tL pa ((ns.drop 8).map V.int) :: B :: tG (po.map fN) :: tG (pl.map fR) :: Ro) := by rw [List.append_assoc]; rfl
      rw [← e]
      exact g
    have g2 := Hw.grp (As := rs.map fR) (Hw.mid (As := rs.map fR) g1)
    have g3 : Hw K (knW iP' ++ (knK ks2 ++ L)) T0 ([tG (rs.map fR), tG ((X.set j x').map (tX CB CI CL)), tL o (refsR rs), fR (pa, ns.drop 8), B, tG (po.map fN), tG (pl.map fR)] ++ Ro) H' := g2
    have g4 : Hw K (knW iP' ++ (knK ks2 ++ L)) T0 (fR (pa, ns.drop 8) :: tG (pl.map fR) :: [B, tG ((X.set j x').map (tX CB CI CL)), tG (po.map fN), tL o (refsR rs), tG (rs.map fR)] ++ Ro) H' := g3.selR [3, 6, 4, 1, 5, 2, 0] (by decide)
    have g5 : Hw K (knW iP' ++ (knK ks2 ++ L)) T0 ([tG ((pl ++ [(pa, ns.drop 8)]).map fR), B, tG ((X.set j x').map (tX CB CI CL)), tG (po.map fN), tL o (refsR rs), tG (rs.map fR)] ++ Ro) H' := Hw.gadd (f := fR) (Y := pl) (z := (pa, ns.drop 8)) g4
    have g6 : Hw K (knW iP' ++ (knK ks2 ++ L)) T0 ([B, tG ((X.set j x').map (tX CB CI CL)), tG (po.map fN), tG ((pl ++ [(pa, ns.drop 8)]).map fR), tL o (refsR rs), tG (rs.map fR)] ++ Ro) H' := g5.selR [1, 2, 3, 0, 4, 5] (by decide)
    refine q H' o x' rs (knW iP' ++ (knK ks2 ++ L)) (pl ++ [(pa, ns.drop 8)]) (by rw [ex]) (by rw [ex, hrs]; exact abs_take1 hms c1 eok hws) ?_ ?_ ?_ (fun r hr => hr60 r.2 (by rw [← hrs]; exact List.mem_map.mpr ⟨r, hr, rfl⟩)) ⟨?_, ?_, ?_, ?_, ?_⟩ (fun q hq => List.mem_append_right _ (List.mem_append_right _ hq)) (fun z hz => List.mem_append_left _ hz) g6
    · rw [ex]
      exact fin _ hws rfl rfl rfl
    · rw [ex]
      exact hb.ans hms _ rfl rfl rfl (by show ansL x.S.sent ms (pAns ns) = _; rw [n5])
    · rw [← hrs, List.length_map] at hrl
      exact hrl
    · rw [ex]
      exact fun q hq => List.mem_append_right _ (List.mem_append_right _ (ok.kP q hq))
    · rw [ex]
      exact fun q hq => List.mem_append_left _ hq
    · rw [ex]
      exact fun q hq => List.mem_append_right _ (List.mem_append_left _ hq)
    · rw [ex]
      intro p hp
      refine ok.po p ?_
      have hp : p ∈ x.S.queue ++ ansL x.S.sent ms (pAns ns) := hp
      rcases List.mem_append.mp hp with z | z
      · exact List.mem_append_left _ z
      · exact List.mem_append_right _ (ansL_sub p z)
    · rw [ex]
      intro z hz
      have hz : z ∈ ks2 := hz
      rw [eks] at hz
      rcases inPut_mem (List.mem_filter.mp hz).1 with y | ⟨_, _, y3, y4⟩
      · exact List.mem_append_left _ (ok.pl z y)
      · refine List.mem_append_right _ ?_
        rw [y3, y4, d8]
        exact .head _
  · obtain ⟨xx, qq, h1, h2, hqq, e3⟩ : ∃ (x : Nat) (q : QT), bse ≤ x ∧ x < snt ∧ qs[x]? = some q ∧ ns = headL ((x : Int) % 8) ((S1.place : Int) % 8) 1 q.last ++ q.bits := by
      rcases hn with rfl | z
      · obtain ⟨_, _, _, a4, _⟩ := ansHead (z := (S1.place : Int) % 8) (by omega) (by omega)
        rw [a4] at c1
        cases c1
      · exact z
    obtain ⟨b1, b2, b3, b4⟩ := qs_ok hh.w.qok qq (List.mem_of_getElem? hqq)
    obtain ⟨_, _, d8, dn, da, _, dl, _⟩ := piece_head (n := (xx : Int) % 8) (a := (S1.place : Int) % 8) (by omega) (by omega) b4 b1
    rw [← e3] at d8 dn da dl
    obtain ⟨p2, ws2, bg2, rows2, e2, _⟩ := hh.take h1 h2 hqq t pa
    rw [d8, dn, dl, e2] at ebad
    cases ebad
  · rcases z with z | z
    · omega
    · rw [n3] at z
      cases z
end
/-! ### a take, with the rows told so far -/
theorem W43.takeJ {rws : List (List Int)} {qs : List QT} {iws : Wds} {place : Nat} {kept : List KT} {begun : List Int} {th th1 : List Nat} {at_ j : Nat} {q : QT} (hp : PosR rws place j iws begun) (h : W43 rws qs iws place kept begun th) (hat : qs[at_]? = some q) (hd : at_ < place + 4) (hd2 : place ≤ at_ + 4) (hth : ∀ k, k ∈ th1 ↔ (k ∈ th ∨ (place ≤ at_ ∧ k = at_))) (t pa : Addr) :
    ∃ (p' j' : Nat) (ws' : Wds) (bg' : List Int), inGo (kept.length + 2) iws place (inPut kept place ((at_ : Int) % 8) q.last t pa q.bits) begun [] = .ok ws' p' ((inPut kept place ((at_ : Int) % 8) q.last t pa q.bits).filter fun x => decide (x.key < place ∨ p' ≤ x.key)) bg' ((List.range' j (j' - j)).map (rowAt rws)) ∧
      W43 rws qs ws' p' ((inPut kept place ((at_ : Int) % 8) q.last t pa q.bits).filter fun x => decide (x.key < place ∨ p' ≤ x.key)) bg' th1 ∧ PosR rws p' j' ws' bg' ∧ place ≤ p' ∧ (∀ k, place ≤ k → k < p' → k ∈ th1) ∧ ¬ p' ∈ th1 ∧ j ≤ j' := by
  obtain ⟨ks1, ek⟩ : ∃ ks1, ks1 = inPut kept place ((at_ : Int) % 8) q.last t pa q.bits := ⟨_, rfl⟩
  have facts : Fx43 qs place th1 kept.length ks1 := by
    have same : ks1 = kept → (place ≤ at_ → at_ ∈ th) → Fx43 qs place th1 kept.length ks1 := fun e hin => by
      rw [e]
      refine ⟨h.kq, h.kr, h.nd, fun k hk => ?_, Nat.le_succ _⟩
      rw [hth, ← h.tk k hk]
      refine ⟨fun z => z.elim id fun z => ?_, .inl⟩
      rw [z.2]
      exact hin z.1
    by_cases z : place ≤ at_
    · have ea : ((((at_ : Int) % 8) - (place : Int)) % 8).toNat = at_ - place := by omega
      have ep : place + (at_ - place) = at_ := by omega
      cases hg : kGet kept at_ with
      | some y =>
        refine same ?_ fun _ => (h.tk at_ z).mpr (by rw [hg]; exact fun z => nomatch z)
        rw [ek]
        unfold inPut
        rw [ea, ep, if_neg]
        rw [hg]
        exact fun z => nomatch z.2
      | none =>
        have nin : ¬ at_ ∈ th := fun y => (h.tk at_ z).mp y hg
        have ek1 : ks1 = kept ++ [⟨at_, t, q.last, pa, q.bits⟩] := by
          rw [ek]
          unfold inPut
          rw [ea, ep, if_pos ⟨by omega, hg⟩]
        rw [ek1]
        refine ⟨fun x hx => ?_, fun x hx => ?_, ?_, fun k hk => ?_, ?_⟩
        · rcases List.mem_append.mp hx with y | y
          · exact h.kq x y
          · rw [List.mem_singleton.mp y]
            exact ⟨q, hat, rfl, rfl⟩
        · rcases List.mem_append.mp hx with y | y
          · exact h.kr x y
          · rw [List.mem_singleton.mp y]
            exact ⟨z, hd⟩
        · rw [List.map_append]
          refine List.nodup_append.mpr ⟨h.nd, by simp, fun a ha b hb => ?_⟩
          obtain ⟨x, hx, rfl⟩ := List.mem_map.mp ha
          have hb : b = at_ := by simpa using hb
          rw [hb]
          exact kGet_none hg x hx
        · rw [hth, kGet_app, ← h.tk k hk]
          refine ⟨fun y => y.imp id fun y => y.2.symm, fun y => y.imp id fun y => ⟨z, y.symm⟩⟩
        · rw [List.length_append]
          exact Nat.le_refl _
    · refine same ?_ fun y => absurd y z
      rw [ek]
      unfold inPut
      rw [if_neg]
      intro y
      have := y.1
      omega
  rw [← ek]
  clear ek
  obtain ⟨f1, f2, f3, f4, f5⟩ := facts
  obtain ⟨p', j', ws', bg', c1, c2, c3, c4, c5, c6⟩ := inGo_ok h.qok h.byt (kept.length + 2) place j iws begun ks1 [] (by omega) hp f1
  have sub : ∀ x ∈ ks1.filter (fun x => decide (x.key < place ∨ p' ≤ x.key)), x ∈ ks1 ∧ p' ≤ x.key := fun x hx => by
    obtain ⟨a, b⟩ := List.mem_filter.mp hx
    have b := of_decide_eq_true b
    have := (f2 x a).1
    exact ⟨a, by omega⟩
  refine ⟨p', j', ws', bg', c1, ⟨h.qok, h.byt, ⟨j', c4⟩, fun x hx => f1 x (sub x hx).1, fun x hx => ?_, ?_, fun k hk => ?_, ?_⟩, c4, c3, fun k h1 h2 => (f4 k h1).mpr (c5 k h1 h2), fun y => (f4 p' c3).mp y c6, c2⟩
  · obtain ⟨a, b⟩ := sub x hx
    have := (f2 x a).2
    exact ⟨b, by omega⟩
  · exact List.Sublist.nodup (List.Sublist.map _ List.filter_sublist) f3
  · rw [f4 k (by omega), kGet_fil hk]
  · rw [kGet_fil (Nat.le_refl _)]
    exact c6
/-! ### two links with payloads on the way -/
structure CE where
  x : Option Nat
  sg : Nat
  a : Nat
structure DI where
  rws : List (List Int)
  qs : List QT
  bse : Nat
  snt : Nat
  d : Nat
  j : Nat
  th : List Nat
def payE (qs : List QT) (e : CE) (ns : List Int) : Prop := match e.x with
  | none => ns = headL 0 ((e.a : Int) % 8) 0 0
  | some x => ∃ q : QT, qs[x]? = some q ∧ ns = headL ((x : Int) % 8) ((e.a : Int) % 8) 1 q.last ++ q.bits
structure HC (S R : LkS) (D : DI) (E F : List CE) : Prop where
  w : W43 D.rws D.qs (wsOf R.iP) R.place R.kept R.begun D.th
  pos : PosR D.rws R.place D.j (wsOf R.iP) R.begun
  ws : wsOf S.P = wsN D.rws
  cut : S.cut = D.qs.length
  qp : S.queue.map (fun p => p.place) = List.range' D.snt (D.qs.length - D.snt)
  perm : (S.sent.map fun p => p.place).Perm (List.range' D.bse (D.snt - D.bse))
  bs : D.bse ≤ D.snt
  sn : D.snt ≤ D.qs.length
  win : D.snt ≤ D.bse + 4
  pc : ∀ p ∈ S.queue ++ S.sent, ∃ q : QT, D.qs[p.place]? = some q ∧ q.last = p.last ∧ q.bits = p.bits
  lo : D.bse ≤ R.place
  hi : R.place ≤ D.d
  td : ∀ k ∈ D.th, k < D.d
  ds : D.d ≤ D.snt
  es : ∀ e ∈ E, D.d ≤ e.sg ∧ e.sg ≤ D.snt
  eo : E.Pairwise fun e f => e.sg ≤ f.sg
  ex : ∀ e ∈ E, ∀ x, e.x = some x → x < e.sg ∧ e.sg ≤ x + 4 ∧ x < D.qs.length
  fa : ∀ e ∈ F, D.bse ≤ e.a ∧ e.a ≤ R.place
  fo : F.Pairwise fun e f => e.a ≤ f.a
section
variable {S R : LkS} {D : DI} {E F : List CE} {e : CE}
theorem HC.slen (h : HC S R D E F) : S.sent.length = D.snt - D.bse := by
  have := h.perm.length_eq
  rwa [List.length_map, List.length_range'] at this
theorem HC.w61 (h : HC S R D E F) : W61 (wsOf S.P) := by
  rw [h.ws]
  exact w61_fold _ _ w61_nil fun r hr => (h.w.byt r hr).2
theorem HC.bits (h : HC S R D E F) : ∀ p ∈ S.queue ++ S.sent, p.bits.length ≤ 40 := fun p hp => by
  obtain ⟨q, e, _, e2⟩ := h.pc p hp
  rw [← e2]
  exact (qs_ok h.w.qok q (List.mem_of_getElem? e)).2.2.1
theorem HC.qlen (h : HC S R D E F) : S.queue.length = D.qs.length - D.snt := by
  have := congrArg List.length h.qp
  rwa [List.length_map, List.length_range'] at this
theorem HC.cg {S' R' : LkS} (h : HC S R D E F) (e1 : S'.P = S.P) (e2 : S'.cut = S.cut) (e3 : S'.queue = S.queue) (e4 : S'.sent = S.sent) (e5 : R'.iP = R.iP) (e6 : R'.place = R.place) (e7 : R'.kept = R.kept) (e8 : R'.begun = R.begun) : HC S' R' D E F :=
  ⟨by rw [e5, e6, e7, e8]; exact h.w, by rw [e5, e6, e8]; exact h.pos, by rw [e1]; exact h.ws, by rw [e2]; exact h.cut, by rw [e3]; exact h.qp, by rw [e4]; exact h.perm, h.bs, h.sn, h.win, by rw [e3, e4]; exact h.pc, by rw [e6]; exact h.lo, by rw [e6]; exact h.hi, h.td, h.ds, h.es, h.eo, h.ex, by rw [e6]; exact h.fa, h.fo⟩
theorem HC.dropE (h : HC S R D (e :: E) F) : HC S R D E F := ⟨h.w, h.pos, h.ws, h.cut, h.qp, h.perm, h.bs, h.sn, h.win, h.pc, h.lo, h.hi, h.td, h.ds, fun f hf => h.es f (.tail _ hf), (List.pairwise_cons.mp h.eo).2, fun f hf => h.ex f (.tail _ hf), h.fa, h.fo⟩
theorem HC.dropF (h : HC S R D E (e :: F)) : HC S R D E F := ⟨h.w, h.pos, h.ws, h.cut, h.qp, h.perm, h.bs, h.sn, h.win, h.pc, h.lo, h.hi, h.td, h.ds, h.es, h.eo, h.ex, fun f hf => h.fa f (.tail _ hf), (List.pairwise_cons.mp h.fo).2⟩
theorem HC.hand {r : List Int} {P' : List WP} {new : List PT} (h : HC S R D E F) (hn : PcsOf S.cut (bkPack (wsOf S.P) r) (pcN (bkPack (wsOf S.P) r)) new) (ew : wsOf P' = (bkShort (wsOf S.P) r).2) (hr : Bytes r ∧ r.length ≤ 60) :
    HC { S with P := P', cut := S.cut + new.length, queue := S.queue ++ new } R { D with rws := D.rws ++ [r], qs := D.qs ++ new.map toQ } E F := by
  have hsn := h.sn
  have hc := h.cut
  have hpl : (D.qs ++ new.map toQ).length = D.qs.length + new.length := by rw [List.length_append, List.length_map]
  have hq := pcs_q hn
  rw [h.ws] at hq ew
  refine ⟨h.w.more hq hr, h.pos.more, ?_, ?_, ?_, h.perm, h.bs, by show D.snt ≤ (D.qs ++ new.map toQ).length; omega, h.win, fun p hp => ?_, h.lo, h.hi, h.td, h.ds, h.es, h.eo, fun e he x ex => ?_, h.fa, h.fo⟩
  · show wsOf P' = wsN (D.rws ++ [r])
    rw [ew, wsN_snoc]
  · show S.cut + new.length = (D.qs ++ new.map toQ).length
    rw [hpl, hc]
  · show (S.queue ++ new).map _ = List.range' D.snt ((D.qs ++ new.map toQ).length - D.snt)
    rw [List.map_append, h.qp, pcs_place hn, hc, hpl, hn.len, show D.qs.length + pcN (bkPack (wsOf S.P) r) - D.snt = (D.qs.length - D.snt) + pcN (bkPack (wsOf S.P) r) by omega, ← List.range'_append_1, show D.snt + (D.qs.length - D.snt) = D.qs.length by omega]
  · have old : p ∈ S.queue ++ S.sent → ∃ q : QT, (D.qs ++ new.map toQ)[p.place]? = some q ∧ q.last = p.last ∧ q.bits = p.bits := fun hp => by
      obtain ⟨q, e, r⟩ := h.pc p hp
      exact ⟨q, by rw [List.getElem?_append_left (List.getElem?_eq_some_iff.mp e).1]; exact e, r⟩
    have hp : p ∈ (S.queue ++ new) ++ S.sent := hp
    rcases List.mem_append.mp hp with hp | hp
    · rcases List.mem_append.mp hp with hp | hp
      · exact old (List.mem_append_left _ hp)
      · obtain ⟨j, hj⟩ := List.getElem?_of_mem hp
        obtain ⟨x1, x2, x3⟩ := hn.all j p hj
        refine ⟨toQ p, ?_, rfl, rfl⟩
        show (D.qs ++ new.map toQ)[p.place]? = _
        rw [x1, hc, List.getElem?_append_right (by omega), show D.qs.length + j - D.qs.length = j by omega, List.getElem?_map, hj]
        rfl
    · exact old (List.mem_append_right _ hp)
  · obtain ⟨a1, a2, a3⟩ := h.ex e he x ex
    exact ⟨a1, a2, by show x < (D.qs ++ new.map toQ).length; omega⟩
theorem payE_more {qs new : List QT} {ns : List Int} (h : payE qs e ns) : payE (qs ++ new) e ns := by
  unfold payE at h ⊢
  cases hx : e.x with
  | none => rw [hx] at h; exact h
  | some x =>
    rw [hx] at h
    obtain ⟨q, e1, e2⟩ := h
    exact ⟨q, by rw [List.getElem?_append_left (List.getElem?_eq_some_iff.mp e1).1]; exact e1, e2⟩
theorem idx_ne {a p : Nat} {l : List Nat} (z : ¬ a = p) : (a :: l).idxOf p = l.idxOf p + 1 := by
  rw [List.idxOf_cons, show (a == p) = false from beq_eq_false_iff_ne.mpr z]
  rfl
/-- where the awaited piece stands among the open ones -/
def posn (S : LkS) (p : Nat) : Nat := (S.sent.map fun p => p.place).idxOf p
/-- how much is still to do on one way -/
def wk (S R : LkS) (D : DI) : Nat := 5 * (D.qs.length - R.place) + posn S R.place + (D.qs.length - D.snt)
theorem HC.frame {q' s' : List PT} {o : Option (List Int)} (h : HC S R D E F) (f : FrR S q' s' o) : ∃ (snt' : Nat) (Ne : List CE), HC { S with queue := q', sent := s', owes := false } R { D with snt := snt' } (E ++ Ne) F ∧ (D.snt ≤ snt' ∧ ∀ e ∈ Ne, e.a = S.place) ∧
    ((o = none ∧ Ne = [] ∧ S.owes = false) ∨ ∃ ns e, o = some ns ∧ Ne = [e] ∧ payE D.qs e ns) ∧
    (D.bse < D.qs.length → ∃ e x, Ne = [e] ∧ e.x = some x ∧ (D.bse = R.place → x = R.place ∨ 5 * (D.qs.length - R.place) + posn { S with queue := q', sent := s', owes := false } R.place + (D.qs.length - snt') < wk S R D)) := by
  have hl := h.slen
  have hql := h.qlen
  have hbs := h.bs
  have hsn := h.sn
  have hwn := h.win
  have hhi := h.hi
  have hlo := h.lo
  have hds := h.ds
  have hqp := h.qp
  have eoE : ∀ e : CE, e.sg = D.snt ∨ e.sg = D.snt + 1 → (E ++ [e]).Pairwise fun e f => e.sg ≤ f.sg := fun e he => by
    refine List.pairwise_append.mpr ⟨h.eo, List.pairwise_singleton _ _, fun a ha b hb => ?_⟩
    rw [List.mem_singleton.mp hb]
    have := (h.es a ha).2
    omega
  have rot : ∀ (y : PT) (s1 : List PT), S.sent = y :: s1 → q' = S.queue → s' = s1 ++ [y] → o = some (headL ((y.place : Int) % 8) ((S.place : Int) % 8) 1 y.last ++ y.bits) → ¬ (0 < S.queue.length ∧ S.sent.length < 4) → ∃ (snt' : Nat) (Ne : List CE), HC { S with queue := q', sent := s', owes := false } R { D with snt := snt' } (E ++ Ne) F ∧ (D.snt ≤ snt' ∧ ∀ e ∈ Ne, e.a = S.place) ∧
    ((o = none ∧ Ne = [] ∧ S.owes = false) ∨ ∃ ns e, o = some ns ∧ Ne = [e] ∧ payE D.qs e ns) ∧
    (D.bse < D.qs.length → ∃ e x, Ne = [e] ∧ e.x = some x ∧ (D.bse = R.place → x = R.place ∨ 5 * (D.qs.length - R.place) + posn { S with queue := q', sent := s', owes := false } R.place + (D.qs.length - snt') < wk S R D)) := fun y s1 e eq es eo hnq => by
    subst eq es eo
    have pm := h.perm
    rw [e] at pm
    have hy : y ∈ S.sent := by rw [e]; exact .head _
    have hm : y.place ∈ List.range' D.bse (D.snt - D.bse) := pm.mem_iff.mp (List.mem_map.mpr ⟨y, .head _, rfl⟩)
    rw [List.mem_range'_1] at hm
    obtain ⟨q, e1, e2, e3⟩ := h.pc y (List.mem_append_right _ hy)
    refine ⟨D.snt, [⟨some y.place, D.snt, S.place⟩], ⟨h.w, h.pos, h.ws, h.cut, h.qp, ?_, h.bs, h.sn, h.win, fun p hp => ?_, h.lo, h.hi, h.td, h.ds, fun f hf => ?_, eoE _ (.inl rfl), fun f hf x hx => ?_, h.fa, h.fo⟩, ⟨Nat.le_refl _, fun f hf => by rw [List.mem_singleton.mp hf]⟩, .inr ⟨_, _, rfl, rfl, ⟨q, e1, by rw [e2, e3]⟩⟩, fun _ => ⟨_, y.place, rfl, rfl, fun eb => ?_⟩⟩
    · refine List.Perm.trans (List.Perm.map _ ?_) pm
      exact List.perm_append_comm (l₁ := s1) (l₂ := [y])
    · refine h.pc p ?_
      have hp : p ∈ S.queue ++ (s1 ++ [y]) := hp
      rw [e]
      rcases List.mem_append.mp hp with z | z
      · exact List.mem_append_left _ z
      · refine List.mem_append_right _ ?_
        rcases List.mem_append.mp z with z | z
        · exact .tail _ z
        · rw [List.mem_singleton.mp z]
          exact .head _
    · rcases List.mem_append.mp hf with z | z
      · exact h.es f z
      · rw [List.mem_singleton.mp z]
        exact ⟨hds, Nat.le_refl _⟩
    · rcases List.mem_append.mp hf with z | z
      · exact h.ex f z x hx
      · rw [List.mem_singleton.mp z] at hx ⊢
        cases hx
        exact ⟨by show y.place < D.snt; omega, by show D.snt ≤ y.place + 4; omega, (List.getElem?_eq_some_iff.mp e1).1⟩
    · by_cases z : y.place = R.place
      · exact .inl z
      · right
        have hmem : R.place ∈ (y :: s1).map fun p => p.place := pm.mem_iff.mpr (by
          rw [List.mem_range'_1]
          rw [e, List.length_cons] at hl
          omega)
        have hmem1 : R.place ∈ s1.map fun p => p.place := by
          rw [List.map_cons] at hmem
          rcases List.mem_cons.mp hmem with y1 | y1
          · exact absurd y1.symm z
          · exact y1
        have a1 : posn S R.place = (s1.map fun p => p.place).idxOf R.place + 1 := by
          unfold posn
          rw [e, List.map_cons, idx_ne z]
        have a2 : posn { S with queue := S.queue, sent := s1 ++ [y], owes := false } R.place = (s1.map fun p => p.place).idxOf R.place := by
          unfold posn
          show ((s1 ++ [y]).map fun p => p.place).idxOf R.place = _
          rw [List.map_append, List.idxOf_append, if_pos hmem1]
        unfold wk
        rw [a1, a2]
        omega
  rcases f with ⟨s0, x, em, es, eo⟩ | ⟨em, eq, es, eo⟩
  · cases e1 : S.queue with
    | nil =>
      cases e2 : S.sent with
      | nil =>
        rw [e1, e2] at em
        cases em
      | cons y s1 =>
        rw [e1, e2] at em
        cases em
        exact rot x s0 e2 e1.symm es eo (fun z => by rw [e1] at z; exact absurd z.1 (Nat.lt_irrefl _))
    | cons x0 q0 =>
      rw [e1] at em
      have em : (if S.sent.length < 4 then some (q0, S.sent, x0) else (match S.sent with | y :: s' => some (x0 :: q0, s', y) | [] => none)) = some (q', s0, x) := em
      by_cases c : S.sent.length < 4
      · rw [if_pos c] at em
        cases em
        have hlt : D.snt < D.qs.length := by
          rw [e1, List.length_cons] at hql
          omega
        obtain ⟨k, hk⟩ : ∃ k, D.qs.length - D.snt = k + 1 := ⟨D.qs.length - D.snt - 1, by omega⟩
        rw [e1, hk, List.range'_succ, List.map_cons] at hqp
        injection hqp with hx hqp
        obtain ⟨q, g1, g2, g3⟩ := h.pc x (by rw [e1]; exact List.mem_append_left _ (.head _))
        subst es eo
        refine ⟨D.snt + 1, [⟨some x.place, D.snt + 1, S.place⟩], ⟨h.w, h.pos, h.ws, h.cut, ?_, ?_, by show D.bse ≤ D.snt + 1; omega, by show D.snt + 1 ≤ D.qs.length; omega, by show D.snt + 1 ≤ D.bse + 4; omega, fun p hp => ?_, h.lo, h.hi, h.td, by show D.d ≤ D.snt + 1; omega, fun f hf => ?_, eoE _ (.inr rfl), fun f hf y hy => ?_, h.fa, h.fo⟩, ⟨Nat.le_succ _, fun f hf => by rw [List.mem_singleton.mp hf]⟩, .inr ⟨_, _, rfl, rfl, ⟨q, g1, by rw [g2, g3]⟩⟩, fun _ => ⟨_, x.place, rfl, rfl, fun eb => ?_⟩⟩
        · show q'.map _ = List.range' (D.snt + 1) (D.qs.length - (D.snt + 1))
          rw [hqp]
          congr 1
          omega
        · show ((S.sent ++ [x]).map _).Perm (List.range' D.bse (D.snt + 1 - D.bse))
          rw [List.map_append, show D.snt + 1 - D.bse = (D.snt - D.bse) + 1 by omega, List.range'_1_concat, show D.bse + (D.snt - D.bse) = D.snt by omega]
          show (_ ++ [x.place]).Perm _
          rw [hx]
          exact h.perm.append_right _
        · refine h.pc p ?_
          have hp : p ∈ q' ++ (S.sent ++ [x]) := hp
          rw [e1]
          rcases List.mem_append.mp hp with z | z
          · exact List.mem_append_left _ (.tail _ z)
          · rcases List.mem_append.mp z with z | z
            · exact List.mem_append_right _ z
            · rw [List.mem_singleton.mp z]
              exact List.mem_append_left _ (.head _)
        · rcases List.mem_append.mp hf with z | z
          · have := h.es f z
            exact ⟨this.1, by show f.sg ≤ D.snt + 1; omega⟩
          · rw [List.mem_singleton.mp z]
            exact ⟨by show D.d ≤ D.snt + 1; omega, Nat.le_refl _⟩
        · rcases List.mem_append.mp hf with z | z
          · exact h.ex f z y hy
          · rw [List.mem_singleton.mp z] at hy ⊢
            cases hy
            exact ⟨by show x.place < D.snt + 1; omega, by show D.snt + 1 ≤ x.place + 4; omega, by show x.place < D.qs.length; omega⟩
        · by_cases z : x.place = R.place
          · exact .inl z
          · right
            have hmem1 : R.place ∈ S.sent.map fun p => p.place := h.perm.mem_iff.mpr (by
              rw [List.mem_range'_1]
              omega)
            have a2 : posn { S with queue := q', sent := S.sent ++ [x], owes := false } R.place = posn S R.place := by
              unfold posn
              show ((S.sent ++ [x]).map fun p => p.place).idxOf R.place = _
              rw [List.map_append, List.idxOf_append, if_pos hmem1]
            unfold wk
            rw [a2]
            omega
      · rw [if_neg c] at em
        cases e2 : S.sent with
        | nil =>
          rw [e2] at c
          exact absurd (by decide) c
        | cons y s1 =>
          rw [e2] at em
          cases em
          exact rot x s0 e2 e1.symm es eo (fun z => c z.2)
  · subst eq es
    have e1 : S.queue = [] := by
      cases e1 : S.queue with
      | nil => rfl
      | cons x0 q0 =>
        exfalso
        rw [e1] at em
        have em : (if S.sent.length < 4 then some (q0, S.sent, x0) else (match S.sent with | y :: s' => some (x0 :: q0, s', y) | [] => none)) = none := em
        by_cases c : S.sent.length < 4
        · rw [if_pos c] at em
          cases em
        · rw [if_neg c] at em
          cases e2 : S.sent with
          | nil =>
            rw [e2] at c
            exact absurd (by decide) c
          | cons y s1 =>
            rw [e2] at em
            cases em
    have e2 : S.sent = [] := by
      cases e2 : S.sent with
      | nil => rfl
      | cons y s1 =>
        rw [e1, e2] at em
        cases em
    have hfin : ¬ D.bse < D.qs.length := by
      rw [e1] at hql
      rw [e2] at hl
      have hl : 0 = D.snt - D.bse := hl
      have hql : 0 = D.qs.length - D.snt := hql
      omega
    cases how : S.owes with
    | false =>
      rw [how] at eo
      have eo : o = none := eo
      refine ⟨D.snt, [], ?_, ⟨Nat.le_refl _, fun f hf => absurd hf List.not_mem_nil⟩, .inl ⟨eo, rfl, rfl⟩, fun z => absurd z hfin⟩
      rw [List.append_nil]
      exact h.cg rfl rfl rfl rfl rfl rfl rfl rfl
    | true =>
      rw [how, if_pos rfl] at eo
      refine ⟨D.snt, [⟨none, D.snt, S.place⟩], ⟨h.w, h.pos, h.ws, h.cut, h.qp, h.perm, h.bs, h.sn, h.win, h.pc, h.lo, h.hi, h.td, h.ds, fun f hf => ?_, eoE _ (.inl rfl), fun f hf x hx => ?_, h.fa, h.fo⟩, ⟨Nat.le_refl _, fun f hf => by rw [List.mem_singleton.mp hf]⟩, .inr ⟨_, _, eo, rfl, rfl⟩, fun z => absurd z hfin⟩
      · rcases List.mem_append.mp hf with z | z
        · exact h.es f z
        · rw [List.mem_singleton.mp z]
          exact ⟨hds, Nat.le_refl _⟩
      · rcases List.mem_append.mp hf with z | z
        · exact h.ex f z x hx
        · rw [List.mem_singleton.mp z] at hx
          cases hx
/-- the other way behind a frame -/
theorem HC.framed {Ne : List CE} {S' : LkS} (h : HC R S D F E) (ha : ∀ e ∈ Ne, e.a = S.place) (hl : Ne.length ≤ 1) (e5 : S'.iP = S.iP) (e6 : S'.place = S.place) (e7 : S'.kept = S.kept) (e8 : S'.begun = S.begun) : HC R S' D F (E ++ Ne) := by
  have h := h.cg (S' := R) (R' := S') rfl rfl rfl rfl e5 e6 e7 e8
  refine ⟨h.w, h.pos, h.ws, h.cut, h.qp, h.perm, h.bs, h.sn, h.win, h.pc, h.lo, h.hi, h.td, h.ds, h.es, h.eo, h.ex, fun f hf => ?_, ?_⟩
  · rcases List.mem_append.mp hf with z | z
    · exact h.fa f z
    · rw [ha f z, ← e6]
      exact ⟨h.lo, Nat.le_refl _⟩
  · refine List.pairwise_append.mpr ⟨h.fo, ?_, fun a ha' b hb => ?_⟩
    · match Ne, hl with
      | [], _ => exact List.Pairwise.nil
      | [e], _ => exact List.pairwise_singleton _ _
    · rw [ha b hb, ← e6]
      exact (h.fa a ha').2
theorem HC.take {x : Nat} {q : QT} (h : HC S R D (e :: E) F) (hx : e.x = some x) (hq : D.qs[x]? = some q) (t pa : Addr) :
    ∃ (p' j' : Nat) (ws' : Wds) (bg' : List Int) (th' : List Nat), inGo (R.kept.length + 2) (wsOf R.iP) R.place (inPut R.kept R.place ((x : Int) % 8) q.last t pa q.bits) R.begun [] = .ok ws' p' ((inPut R.kept R.place ((x : Int) % 8) q.last t pa q.bits).filter fun x => decide (x.key < R.place ∨ p' ≤ x.key)) bg' ((List.range' D.j (j' - D.j)).map (rowAt D.rws)) ∧ D.j ≤ j' ∧ j' ≤ D.rws.length ∧ R.place ≤ p' ∧ (x = R.place → R.place < p') ∧
      ∀ (R' : LkS), wsOf R'.iP = ws' → R'.place = p' → R'.kept = ((inPut R.kept R.place ((x : Int) % 8) q.last t pa q.bits).filter fun x => decide (x.key < R.place ∨ p' ≤ x.key)) → R'.begun = bg' → HC S R' { D with d := e.sg, j := j', th := th' } E F := by
  have hlo := h.lo
  have hhi := h.hi
  have hwn := h.win
  obtain ⟨x1, x2, x3⟩ := h.ex e (.head _) x hx
  obtain ⟨y1, y2⟩ := h.es e (.head _)
  obtain ⟨p', j', ws', bg', eg, w', pos', hp, hin, hno, hj⟩ := h.w.takeJ (th1 := if R.place ≤ x then x :: D.th else D.th) h.pos hq (by omega) (by omega) (fun k => by
    by_cases z : R.place ≤ x
    · rw [if_pos z, List.mem_cons]
      exact ⟨fun y => y.elim (fun y => .inr ⟨z, y⟩) .inl, fun y => y.elim .inr fun y => .inl y.2⟩
    · rw [if_neg z]
      exact ⟨.inl, fun y => y.elim id fun y => absurd y.1 z⟩) t pa
  have htl : ∀ k ∈ (if R.place ≤ x then x :: D.th else D.th), k < e.sg := fun k hk => by
    split at hk
    · rcases List.mem_cons.mp hk with rfl | hk
      · exact x1
      · exact Nat.lt_of_lt_of_le (h.td k hk) y1
    · exact Nat.lt_of_lt_of_le (h.td k hk) y1
  have hps : p' ≤ e.sg := by
    rcases Nat.lt_or_ge e.sg p' with z | z
    · have := htl e.sg (hin e.sg (by omega) z)
      omega
    · exact z
  refine ⟨p', j', ws', bg', _, eg, hj, pos'.jl, hp, fun z => ?_, fun R' a1 a2 a3 a4 => ⟨by rw [a1, a2, a3, a4]; exact w', by rw [a1, a2, a4]; exact pos', h.ws, h.cut, h.qp, h.perm, h.bs, h.sn, h.win, h.pc, by rw [a2]; exact Nat.le_trans hlo hp, by rw [a2]; exact hps, htl, y2, fun f hf => ⟨(List.pairwise_cons.mp h.eo).1 f hf, (h.es f (.tail _ hf)).2⟩, (List.pairwise_cons.mp h.eo).2, fun f hf => h.ex f (.tail _ hf), fun f hf => ?_, h.fo⟩⟩
  · rcases Nat.lt_or_ge R.place p' with y | y
    · exact y
    · have e1 : p' = R.place := Nat.le_antisymm y hp
      rw [e1, if_pos (by omega), z] at hno
      exact absurd (.head _) hno
  · rw [a2]
    have := h.fa f hf
    exact ⟨this.1, by omega⟩
theorem idx_fil {l : List Nat} {f : Nat → Bool} {p : Nat} (hf : f p = true) : (l.filter f).idxOf p ≤ l.idxOf p := by
  induction l with
  | nil => exact Nat.le_refl _
  | cons a l ih =>
    rw [List.idxOf_cons]
    by_cases z : a = p
    · subst z
      rw [List.filter_cons_of_pos hf, List.idxOf_cons]
      simp
    · rw [← List.idxOf_cons, idx_ne z]
      cases hfa : f a with
      | true =>
        rw [List.filter_cons_of_pos hfa, idx_ne z]
        omega
      | false =>
        rw [List.filter_cons_of_neg (by rw [hfa]; decide)]
        omega
/-- an answer comes to the sender -/
theorem HC.ans {ms : List Int} (h : HC S R D E (e :: F)) (hm : SrtP S.sent ms) : ∀ (S' : LkS), S'.P = S.P → S'.cut = S.cut → S'.queue = S.queue → S'.sent = ansL S.sent ms ((e.a : Int) % 8) → HC S' R { D with bse := e.a } E F ∧ posn S' R.place ≤ posn S R.place := by
  have hlo := h.lo
  have hhi := h.hi
  have hds := h.ds
  have hwn := h.win
  have hl := h.slen
  obtain ⟨ha1, ha2⟩ := h.fa e (.head _)
  have em : ms = (List.range' D.bse (D.snt - D.bse)).map fun n => ((n : Nat) : Int) := by
    have p1 : ms.Perm ((List.range' D.bse (D.snt - D.bse)).map fun n => ((n : Nat) : Int)) := by
      have e : S.sent.map (fun p => (p.place : Int)) = (S.sent.map fun p => p.place).map fun n => ((n : Nat) : Int) := by rw [List.map_map]; rfl
      have := hm.perm
      rw [e] at this
      exact this.trans (h.perm.map _)
    refine List.Perm.eq_of_pairwise (le := fun a b : Int => a ≤ b) (fun a b _ _ h1 h2 => Int.le_antisymm h1 h2) hm.up ?_ p1
    rw [List.pairwise_map]
    exact (List.pairwise_lt_range' (s := D.bse) (n := D.snt - D.bse)).imp (fun {a b} (h : a < b) => by omega)
  intro S' a1 a2 a3 a4
  have fin : (S'.sent.map fun p => p.place).Perm (List.range' e.a (D.snt - e.a)) → (∀ p ∈ S'.sent, p ∈ S.sent) → posn S' R.place ≤ posn S R.place → HC S' R { D with bse := e.a } E F ∧ posn S' R.place ≤ posn S R.place := fun hpm hsub hpo => ⟨⟨h.w, h.pos, by rw [a1]; exact h.ws, by rw [a2]; exact h.cut, by rw [a3]; exact h.qp, hpm, by show e.a ≤ D.snt; omega, h.sn, by show D.snt ≤ e.a + 4; omega, fun p hp => h.pc p (by
    rw [a3] at hp
    rcases List.mem_append.mp hp with z | z
    · exact List.mem_append_left _ z
    · exact List.mem_append_right _ (hsub p z)), ha2, h.hi, h.td, h.ds, h.es, h.eo, h.ex, fun f hf => ⟨(List.pairwise_cons.mp h.fo).1 f hf, (h.fa f (.tail _ hf)).2⟩, (List.pairwise_cons.mp h.fo).2⟩, hpo⟩
  by_cases z : D.snt = D.bse
  · have e0 : ms = [] := by rw [em, z, Nat.sub_self]; rfl
    have es : S.sent = [] := List.eq_nil_of_length_eq_zero (by omega)
    have e1 : ansL S.sent ms ((e.a : Int) % 8) = [] := by unfold ansL; rw [if_pos e0, es]
    rw [e1] at a4
    refine fin ?_ ?_ ?_
    · rw [a4, show D.snt - e.a = 0 by omega]
      exact List.Perm.refl _
    · rw [a4]
      exact fun p hp => absurd hp List.not_mem_nil
    · unfold posn
      rw [a4]
      exact Nat.zero_le _
  · obtain ⟨k, hk⟩ : ∃ k, D.snt - D.bse = k + 1 := ⟨D.snt - D.bse - 1, by have := h.bs; omega⟩
    have e0 : ms ≠ [] := by rw [em, hk]; exact fun z => nomatch z
    have e2 : ms.getD 0 0 = (D.bse : Int) := by rw [em, hk]; rfl
    have e3 : ms.length = D.snt - D.bse := by rw [em, List.length_map, List.length_range']
    have ho : ((e.a : Int) % 8 - (D.bse : Int)) % 8 = ((e.a - D.bse : Nat) : Int) := by omega
    have ea : ansL S.sent ms ((e.a : Int) % 8) = S.sent.filter ((fun f => decide (D.bse + (e.a - D.bse) ≤ f)) ∘ fun p => p.place) := by
      unfold ansL
      rw [if_neg e0, e2, e3, ho, if_pos (by omega)]
      congr 1
      funext p
      show decide _ = decide _
      congr 1
      exact propext ⟨fun (h : (D.bse : Int) + ((e.a - D.bse : Nat) : Int) ≤ ((p.place : Nat) : Int)) => (by omega : D.bse + (e.a - D.bse) ≤ p.place), fun (h : D.bse + (e.a - D.bse) ≤ p.place) => (by omega : (D.bse : Int) + ((e.a - D.bse : Nat) : Int) ≤ ((p.place : Nat) : Int))⟩
    rw [ea] at a4
    refine fin ?_ ?_ ?_
    · rw [a4, ← List.filter_map, show List.range' e.a (D.snt - e.a) = List.range' (D.bse + (e.a - D.bse)) (D.snt - D.bse - (e.a - D.bse)) by congr 1 <;> omega, ← filter_range' _ _ _ (by omega)]
      exact h.perm.filter _
    · rw [a4]
      exact fun p hp => (List.mem_filter.mp hp).1
    · unfold posn
      rw [a4, ← List.filter_map]
      exact idx_fil (decide_eq_true (by omega))
end
theorem HC.start : HC ⟨[], 0, [], [], false, [], 0, [], []⟩ ⟨[], 0, [], [], false, [], 0, [], []⟩ ⟨[], [], 0, 0, 0, 0, []⟩ [] [] := ⟨W43.start QsOk.nil (fun r hr => absurd hr List.not_mem_nil), PosR.start [], rfl, rfl, rfl, List.Perm.refl _, Nat.le_refl _, Nat.le_refl _, Nat.zero_le _, (fun p hp => absurd hp List.not_mem_nil), Nat.le_refl _, Nat.le_refl _, (fun k hk => absurd hk List.not_mem_nil), Nat.le_refl _, (fun e he => absurd he List.not_mem_nil), List.Pairwise.nil, (fun e he => absurd he List.not_mem_nil), (fun e he => absurd he List.not_mem_nil), List.Pairwise.nil⟩
theorem take_rows (rws : List (List Int)) {j j' : Nat} (h : j ≤ j') (h2 : j' ≤ rws.length) : rws.take j ++ (List.range' j (j' - j)).map (rowAt rws) = rws.take j' := by
  obtain ⟨n, rfl⟩ : ∃ n, j' = j + n := ⟨j' - j, by omega⟩
  rw [show j + n - j = n by omega]
  clear h
  induction n with
  | zero => exact List.append_nil _
  | succ n ih =>
    rw [List.range'_1_concat, List.map_append, ← List.append_assoc, ih (by omega), show j + (n + 1) = (j + n) + 1 from rfl, List.take_succ, List.getElem?_eq_getElem (by omega)]
    show _ ++ [rowAt rws (j + n)] = _ ++ [rws[j + n]]
    unfold rowAt
    rw [List.getD_eq_getElem?_getD, List.getElem?_eq_getElem (by omega)]
    rfl
/-! ### one of two links with payloads on the way -/
section
variable {K : PySem.W.Frag} {L : List (Addr × List L2.V)} {T0 : List (Addr × Str)} {B : Th} {Ro : List Th} {X : List LX} {po : List PT} {pl : List (Addr × List Int)} {j : Nat} {x : LX} {H : Hp} {CB CI CL : Addr} {Q : VK} {E : XK} {D D2 : DI} {Es Fs : List CE}
theorem hc_hand {cY cL cU a : Addr} {ns : List Int} {Y : LkS} (h : Hw K L T0 (B :: tG (X.map (tX CB CI CL)) :: tG (po.map fN) :: tG (pl.map fR) :: Ro) H) (hj : X[j]? = some x) (ok : LOk L po pl x) (kp : KP L po) (hh : HC x.S Y D Es Fs) (hq : x.S.queue.length < 40) (hS : SqL K H a (ns.map L2.V.int)) (hb : Bytes ns) (hl : ns.length ≤ 60)
    (q : ∀ (H' : Hp) (x' : LX) (L' : List (Addr × List L2.V)) (po' : List PT) (nq : List QT), x'.A.r = x.A.r → nq.length = pcN (bkPack (wsOf x.S.P) ns) → HC x'.S Y { D with rws := D.rws ++ [ns], qs := D.qs ++ nq } Es Fs → (∀ D E F Z, HC Z x.S D E F → HC Z x'.S D E F) → LOk L' po' pl x' → KP L' po' → (∀ q ∈ L, q ∈ L') → (∀ p ∈ po, p ∈ po') → Hw K L' T0 (B :: tG ((X.set j x').map (tX CB CI CL)) :: tG (po'.map fN) :: tG (pl.map fR) :: Ro) H' → Q .non H') :
    spHand K CB CI CL cY cL cU [.ref x.A.r, .ref a] H Q E := by
  have hP : (tX CB CI CL x).P H := h.gget 1 rfl hj
  refine ⟨x.A, x.S, a, ns, rfl, hP, (fun q hq => h.tf q (ok.kP q hq)), hh.w61, hS, by omega, by omega, (fun _ _ _ H' br' bl' P' new hn ew tw tn u => ?_), (fun _ _ full => absurd full (by omega)), (fun _ big => absurd big (by omega)), (fun i z hz nz => absurd (hb z (List.mem_of_getElem? hz)) nz)⟩
  have g := ((h.gup (f := tX CB CI CL) (i := 1) (y' := ⟨{ x.A with br := br', bl := bl' }, { x.S with P := P', cut := x.S.cut + new.length, queue := x.S.queue ++ new }⟩) rfl hj (new.map fN) u.grpB).knows tn).knows tw
  have g2 := (Hw.mid (As := new.map fN) (Bs := B :: tG (po.map fN) :: tG (pl.map fR) :: Ro) g)
  have g3 := (Hw.gappI (f := fN) (Y := po) (Z := new) 2 g2 rfl).prm prm3
  refine q H' ⟨{ x.A with br := br', bl := bl' }, { x.S with P := P', cut := x.S.cut + new.length, queue := x.S.queue ++ new }⟩ _ _ (new.map toQ) rfl (by rw [List.length_map, hn.len]) (hh.hand hn ew ⟨hb, hl⟩) (fun D E F Z hz => hz.cg rfl rfl rfl rfl rfl rfl rfl rfl) ⟨fun q hq => List.mem_append_left _ hq, fun q hq => List.mem_append_right _ (List.mem_append_right _ (ok.kI q hq)), fun q hq => List.mem_append_right _ (List.mem_append_right _ (ok.kK q hq)), fun p hp => ?_, ok.pl⟩ (fun p hp => ?_) (fun q hq => List.mem_append_right _ (List.mem_append_right _ hq)) (fun p hp => List.mem_append_left _ hp) g3
  · have hp : p ∈ (x.S.queue ++ new) ++ x.S.sent := hp
    rcases List.mem_append.mp hp with z | z
    · rcases List.mem_append.mp z with z | z
      · exact List.mem_append_left _ (ok.po p (List.mem_append_left _ z))
      · exact List.mem_append_right _ z
    · exact List.mem_append_left _ (ok.po p (List.mem_append_right _ z))
  · rcases List.mem_append.mp hp with z | z
    · exact List.mem_append_right _ (List.mem_append_right _ (kp p z))
    · exact List.mem_append_right _ (List.mem_append_left _ (List.mem_map.mpr ⟨p, z, rfl⟩))
/-- what a frame does to the ways -/
structure FrD (S S' : LkS) (R : LkS) (D : DI) (snt' : Nat) (Ne : List CE) (o : Option (List Int)) : Prop where
  pl : S'.place = S.place
  ow : S'.owes = false
  ne : (o = none ∧ Ne = [] ∧ S.owes = false) ∨ ∃ ns e, o = some ns ∧ Ne = [e] ∧ payE D.qs e ns
  na : ∀ e ∈ Ne, e.a = S.place
  sl : D.snt ≤ snt'
  lv : D.bse < D.qs.length → ∃ e x, Ne = [e] ∧ e.x = some x ∧ (D.bse = R.place → x = R.place ∨ 5 * (D.qs.length - R.place) + posn S' R.place + (D.qs.length - snt') < wk S R D)
theorem hc_frame {Y : LkS} (h : Hw K L T0 (B :: tG (X.map (tX CB CI CL)) :: tG (po.map fN) :: tG (pl.map fR) :: Ro) H) (hj : X[j]? = some x) (ok : LOk L po pl x) (kp : KP L po) (hh : HC x.S Y D Es Fs) (hb : HC Y x.S D2 Fs Es)
    (q : ∀ (H' : Hp) (v : L2.V) (x' : LX) (o : Option (List Int)) (snt' : Nat) (Ne : List CE), x'.A.r = x.A.r → OV o v → HC x'.S Y { D with snt := snt' } (Es ++ Ne) Fs → HC Y x'.S D2 Fs (Es ++ Ne) → FrD x.S x'.S Y D snt' Ne o → LOk L po pl x' → Hw K L T0 (B :: tG ((X.set j x').map (tX CB CI CL)) :: tG (po.map fN) :: tG (pl.map fR) :: tG (oTs o v) :: Ro) H' → Q v H') :
    spFrame K CB CI CL [.ref x.A.r] H Q E := by
  have hP : (tX CB CI CL x).P H := h.gget 1 rfl hj
  have hsl := hh.slen
  have hwn := hh.win
  have pok : PcOk K (tLk CB CI CL x.A x.S).ft (x.S.queue ++ x.S.sent) H := fun p hp => by
    obtain ⟨k, hk⟩ := List.getElem?_of_mem (ok.po p hp)
    have g : (fN p).P H := h.gget (f := fN) 2 rfl hk
    exact ⟨h.tf _ (kp p (ok.po p hp)), g.1, fun z => h.hs.sep 2 1 _ _ (by decide) rfl rfl p.ba (mem_tG.mpr ⟨p, ok.po p hp, .head _⟩) (mem_tG.mpr ⟨x, List.mem_of_getElem? hj, z⟩)⟩
  refine frame_use hP pok (fun p hp => by have := hh.bits p hp; omega) (by omega) (fun H' v q' s' o f ov u => ?_)
  have g := h.gup (f := tX CB CI CL) (i := 1) (y' := ⟨x.A, { x.S with queue := q', sent := s', owes := false }⟩) rfl hj (oTs o v) u.grpB
  have g2 := Hw.grp (As := oTs o v) (Hw.mid (As := oTs o v) (Bs := B :: tG (po.map fN) :: tG (pl.map fR) :: Ro) g)
  obtain ⟨snt', Ne, w1, w2, w3, w4⟩ := hh.frame f
  have nl : Ne.length ≤ 1 := by
    rcases w3 with ⟨_, e, _⟩ | ⟨_, _, _, e, _⟩
    · rw [e]; exact Nat.zero_le _
    · rw [e]; exact Nat.le_refl _
  refine q H' v ⟨x.A, { x.S with queue := q', sent := s', owes := false }⟩ o snt' Ne rfl ov w1 (hb.framed w2.2 nl rfl rfl rfl rfl) ⟨rfl, rfl, w3, w2.2, w2.1, w4⟩ ⟨ok.kP, ok.kI, ok.kK, fun p hp => ok.po p (f.sub.1 p hp), ok.pl⟩ (g2.prm ?_)
  refine List.Perm.trans ?_ (List.Perm.swap _ _ _)
  refine List.Perm.trans (List.Perm.swap _ _ _) (List.Perm.cons _ ?_)
  refine List.Perm.trans (List.Perm.swap _ _ _) (List.Perm.cons _ ?_)
  refine List.Perm.trans (List.Perm.swap _ _ _) (List.Perm.cons _ ?_)
  exact List.Perm.swap _ _ _
/-- what a take does to the ways -/
structure TkD (S1 R R' : LkS) (D D' D2 D2' : DI) (e : CE) (rows : List (List Int)) : Prop where
  rws : D'.rws = D.rws
  qs : D'.qs = D.qs
  bse : D'.bse = D.bse
  snt : D'.snt = D.snt
  rows : D.rws.take D.j ++ rows = D.rws.take D'.j
  d2 : D2' = { D2 with bse := e.a }
  pl : R.place ≤ R'.place
  pl2 : e.x = some R.place → R.place < R'.place
  ow : R.owes = true → R'.owes = true
  ow2 : e.x ≠ none → R'.owes = true
  po : posn R' S1.place ≤ posn R S1.place
theorem hc_take {cB cF cL cC a : Addr} {ns : List Int} {S1 : LkS} {e : CE} (h : Hw K L T0 (B :: tG (X.map (tX CB CI CL)) :: tG (po.map fN) :: tG (pl.map fR) :: Ro) H) (hj : X[j]? = some x) (ok : LOk L po pl x) (kp : KP L po) (hh : HC S1 x.S D (e :: Es) Fs) (hb : HC x.S S1 D2 Fs (e :: Es)) (hn : payE D.qs e ns) (hS : SqL K H a (ns.map L2.V.int))
    (q : ∀ (H' : Hp) (o : Addr) (x' : LX) (rs : List (Addr × List Int)) (L' : List (Addr × List L2.V)) (pl' : List (Addr × List Int)) (D' D2' : DI), x'.A.r = x.A.r → HC S1 x'.S D' Es Fs → HC x'.S S1 D2' Fs Es → TkD S1 x.S x'.S D D' D2 D2' e (rs.map fun r => r.2) → LOk L' po pl' x' → (∀ q ∈ L, q ∈ L') → (∀ z ∈ pl, z ∈ pl') → Hw K L' T0 (B :: tG ((X.set j x').map (tX CB CI CL)) :: tG (po.map fN) :: tG (pl'.map fR) :: tL o (refsR rs) :: tG (rs.map fR) :: Ro) H' → Q (.ref o) H') :
    spLkTake K CB CI CL cB cF cL cC [.ref x.A.r, .ref a] H Q E := by
  have hP : (tX CB CI CL x).P H := h.gget 1 rfl hj
  have hslb := hb.slen
  have hwnb := hb.win
  have hkl := hh.w.klen
  have hbg := hh.w.bg
  have kb : KbOk (tLk CB CI CL x.A x.S).ft x.S.kept H := fun z hz => by
    have hm := ok.pl z hz
    obtain ⟨k, hk⟩ := List.getElem?_of_mem hm
    have g : (fR (z.ba, z.bits)).P H := h.gget (f := fR) 3 rfl hk
    obtain ⟨qq, e1, _, e3⟩ := hh.w.kq z hz
    have := qs_ok hh.w.qok qq (List.mem_of_getElem? e1)
    rw [e3] at this
    exact ⟨g.1, fun y => h.hs.sep 3 1 _ _ (by decide) rfl rfl z.ba (mem_tG.mpr ⟨(z.ba, z.bits), hm, .head _⟩) (mem_tG.mpr ⟨x, List.mem_of_getElem? hj, y⟩), this.1, this.2.2.1⟩
  have hns : Bits ns ∧ 8 ≤ ns.length ∧ pForm ns = true ∧ ns.length ≤ 48 ∧ pAns ns = (e.a : Int) % 8 ∧ (e.x = none → pCom ns = 0) ∧ ∀ x, e.x = some x → ∃ q : QT, D.qs[x]? = some q ∧ pCom ns = 1 ∧ ns.drop 8 = q.bits ∧ pNum ns = (x : Int) % 8 ∧ pLast ns = q.last := by
    unfold payE at hn
    cases hx : e.x with
    | none =>
      rw [hx] at hn
      obtain rfl := hn
      obtain ⟨a1, a2, a3, a4, a5⟩ := ansHead (z := (e.a : Int) % 8) (by omega) (by omega)
      exact ⟨a1, by omega, a3, by omega, a5, fun _ => a4, (fun x z => by cases z)⟩
    | some xx =>
      rw [hx] at hn
      obtain ⟨qq, eq, rfl⟩ := hn
      obtain ⟨b1, b2, b3, b4⟩ := qs_ok hh.w.qok qq (List.mem_of_getElem? eq)
      obtain ⟨c1, c2, c3, c4, c5, c6, c7, c8⟩ := piece_head (n := (xx : Int) % 8) (a := (e.a : Int) % 8) (by omega) (by omega) b4 b1
      refine ⟨c1, c2, c8 b2 b3, ?_, c5, (fun z => by cases z), fun x z => ?_⟩
      · rw [List.length_append, headL_len]
        omega
      · cases z
        exact ⟨qq, eq, c6, c3, c4, c7⟩
  obtain ⟨n1, n2, n3, n4, n5, n6, n7⟩ := hns
  refine ⟨x.A, x.S, a, ns, rfl, hP, ok.tsent kp h.tf, by omega, (fun q hq => h.tf q (ok.kI q hq)), (fun q hq => h.tf q (ok.kK q hq)), hh.w.w61, kb, hS, by omega, hbg.1, by omega, by omega, (fun _ _ _ c0 H' o p s' ms hms u => ?_), (fun _ _ _ c1 t pa => ⟨fun ws p' ks' bg' rows eok H' o i' idx' ibr' ibl' ik' ig' s' iP' rs ms hms hrs hws tw tk u => ?_, fun e2 ebad => ?_⟩), (fun _ z => ?_), (fun i z hz nz => absurd (n1 z (List.mem_of_getElem? hz)) nz)⟩
  · have hx : e.x = none := by
      cases hx : e.x with
      | none => rfl
      | some xx =>
        obtain ⟨_, _, z, _⟩ := n7 xx hx
        rw [c0] at z
        cases z
    have g := h.gup (f := tX CB CI CL) (i := 1) (y' := ⟨{ x.A with s := s' }, { x.S with sent := ansL x.S.sent ms (pAns ns) }⟩) rfl hj [tL o [], tL p ((ns.drop 8).map V.int)] (u.grpB (Ns := [tL o [], tL p ((ns.drop 8).map V.int)]))
    have g1 : Hw K L T0 (tG ((X.set j ⟨{ x.A with s := s' }, { x.S with sent := ansL x.S.sent ms (pAns ns) }⟩).map (tX CB CI CL)) :: tL o [] :: tL p ((ns.drop 8).map V.int) :: B :: tG (po.map fN) :: tG (pl.map fR) :: Ro) H' := g
    have g2 := (g1.gnil (f := fR))
    obtain ⟨hans, hpo⟩ := hb.ans hms { x.S with sent := ansL x.S.sent ms (pAns ns) } rfl rfl rfl (by show ansL x.S.sent ms (pAns ns) = _; rw [n5])
    refine q H' o ⟨{ x.A with s := s' }, { x.S with sent := ansL x.S.sent ms (pAns ns) }⟩ [] L pl D { D2 with bse := e.a } rfl (hh.dropE.cg rfl rfl rfl rfl rfl rfl rfl rfl) hans ⟨rfl, rfl, rfl, rfl, List.append_nil _, rfl, Nat.le_refl _, (fun z => by rw [hx] at z; cases z), id, (fun z => absurd hx z), hpo⟩ ⟨ok.kP, ok.kI, ok.kK, fun p hp => ok.po p ?_, ok.pl⟩ (fun _ h => h) (fun _ h => h) ?_
    · have hp : p ∈ x.S.queue ++ ansL x.S.sent ms (pAns ns) := hp
      rcases List.mem_append.mp hp with z | z
      · exact List.mem_append_left _ z
      · exact List.mem_append_right _ (ansL_sub p z)
    · have g3 : Hw K L T0 ([tG (([] : List (Addr × List Int)).map fR), tG ((X.set j ⟨{ x.A with s := s' }, { x.S with sent := ansL x.S.sent ms (pAns ns) }⟩).map (tX CB CI CL)), tL o [], tL p ((ns.drop 8).map V.int), B, tG (po.map fN), tG (pl.map fR)] ++ Ro) H' := g2
      exact g3.selR [4, 1, 5, 6, 2, 0] (by decide)
  · obtain ⟨xx, hx⟩ : ∃ xx, e.x = some xx := by
      cases hx : e.x with
      | none =>
        have z := n6 hx
        rw [c1] at z
        cases z
      | some xx => exact ⟨xx, rfl⟩
    obtain ⟨qq, hqq, _, d8, dn, dl⟩ := n7 xx hx
    obtain ⟨p2, j2, ws2, bg2, th2, e2, hjj, hjl, hpp, hpx, fin⟩ := hh.take hx hqq t pa
    have eok2 := eok
    rw [d8, dn, dl, e2] at eok2
    cases eok2
    obtain ⟨ks2, eks⟩ : ∃ ks2, ks2 = ((inPut x.S.kept x.S.place ((xx : Int) % 8) qq.last t pa qq.bits).filter fun z => decide (z.key < x.S.place ∨ p' ≤ z.key)) := ⟨_, rfl⟩
    rw [← eks] at fin tk u
    have g := ((h.gup (f := tX CB CI CL) (i := 1) (y' := ⟨{ x.A with i := i', idx := idx', ibr := ibr', ibl := ibl', ik := ik', ig := ig', s := s' }, { x.S with iP := iP', place := p', kept := ks2, begun := bg', owes := true, sent := ansL x.S.sent ms (pAns ns) }⟩) rfl hj (rs.map fR ++ [tL o (refsR rs), tL pa ((ns.drop 8).map V.int)]) (by
      have u2 : Up (tLk CB CI CL x.A x.S) ((rs.map fR ++ [tL o (refsR rs), tL pa ((ns.drop 8).map V.int)]) ++ lkTs CB CI CL { x.A with i := i', idx := idx', ibr := ibr', ibl := ibl', ik := ik', ig := ig', s := s' } { x.S with iP := iP', place := p', kept := ks2, begun := bg', owes := true, sent := ansL x.S.sent ms (pAns ns) }) H H' := by
        rw [List.append_assoc]
        exact u
      exact u2.grpB)).knows tk).knows tw
    obtain ⟨x', ex⟩ : ∃ x' : LX, x' = ⟨{ x.A with i := i', idx := idx', ibr := ibr', ibl := ibl', ik := ik', ig := ig', s := s' }, { x.S with iP := iP', place := p', kept := ks2, begun := bg', owes := true, sent := ansL x.S.sent ms (pAns ns) }⟩ := ⟨_, rfl⟩
    rw [← ex] at g
    have g1 : Hw K (knW iP' ++ (knK ks2 ++ L)) T0 (tG ((X.set j x').map (tX CB CI CL)) :: (rs.map fR ++ (tL o (refsR rs) :: tL pa ((ns.drop 8).map V.int) :: B :: tG (po.map fN) :: tG (pl.map fR) :: Ro))) H' := by
      have e : (rs.map fR ++ [tL o (refsR rs), tL pa ((ns.drop 8).map V.int)]) ++ (B :: tG (po.map fN) :: tG (pl.map fR) :: Ro) = rs.map fR ++ (tL o (refsR rs) :: tL pa ((ns.drop 8).map V.int) :: B :: tG (po.map fN) :: tG (pl.map fR) :: Ro) := by rw [List.append_assoc]; rfl
      rw [← e]
      exact g
    have g2 := Hw.grp (As := rs.map fR) (Hw.mid (As := rs.map fR) g1)
    have g3 : Hw K (knW iP' ++ (knK ks2 ++ L)) T0 ([tG (rs.map fR), tG ((X.set j x').map (tX CB CI CL)), tL o (refsR rs), fR (pa, ns.drop 8), B, tG (po.map fN), tG (pl.map fR)] ++ Ro) H' := g2
    have g4 : Hw K (knW iP' ++ (knK ks2 ++ L)) T0 (fR (pa, ns.drop 8) :: tG (pl.map fR) :: [B, tG ((X.set j x').map (tX CB CI CL)), tG (po.map fN), tL o (refsR rs), tG (rs.map fR)] ++ Ro) H' := g3.selR [3, 6, 4, 1, 5, 2, 0] (by decide)
    have g5 : Hw K (knW iP' ++ (knK ks2 ++ L)) T0 ([tG ((pl ++ [(pa, ns.drop 8)]).map fR), B, tG ((X.set j x').map (tX CB CI CL)), tG (po.map fN), tL o (refsR rs), tG (rs.map fR)] ++ Ro) H' := Hw.gadd (f := fR) (Y := pl) (z := (pa, ns.drop 8)) g4
    have g6 : Hw K (knW iP' ++ (knK ks2 ++ L)) T0 ([B, tG ((X.set j x').map (tX CB CI CL)), tG (po.map fN), tG ((pl ++ [(pa, ns.drop 8)]).map fR), tL o (refsR rs), tG (rs.map fR)] ++ Ro) H' := g5.selR [1, 2, 3, 0, 4, 5] (by decide)
    obtain ⟨hans, hpo⟩ := hb.ans hms x'.S (by rw [ex]) (by rw [ex]) (by rw [ex]) (by rw [ex]; show ansL x.S.sent ms (pAns ns) = _; rw [n5])
    refine q H' o x' rs (knW iP' ++ (knK ks2 ++ L)) (pl ++ [(pa, ns.drop 8)]) { D with d := e.sg, j := j2, th := th2 } { D2 with bse := e.a } (by rw [ex]) ?_ hans ⟨rfl, rfl, rfl, rfl, ?_, rfl, by rw [ex]; exact hpp, fun z => ?_, fun _ => by rw [ex], fun _ => by rw [ex], hpo⟩ ⟨?_, ?_, ?_, ?_, ?_⟩ (fun q hq => List.mem_append_right _ (List.mem_append_right _ hq)) (fun z hz => List.mem_append_left _ hz) g6
    · rw [ex]
      exact fin _ hws rfl rfl rfl
    · rw [hrs]
      exact take_rows D.rws hjj hjl
    · rw [hx] at z
      rw [ex]
      exact hpx (Option.some.inj z)
    · rw [ex]
      exact fun q hq => List.mem_append_right _ (List.mem_append_right _ (ok.kP q hq))
    · rw [ex]
      exact fun q hq => List.mem_append_left _ hq
    · rw [ex]
      exact fun q hq => List.mem_append_right _ (List.mem_append_left _ hq)
    · rw [ex]
      intro p hp
      refine ok.po p ?_
      have hp : p ∈ x.S.queue ++ ansL x.S.sent ms (pAns ns) := hp
      rcases List.mem_append.mp hp with z | z
      · exact List.mem_append_left _ z
      · exact List.mem_append_right _ (ansL_sub p z)
    · rw [ex]
      intro z hz
      have hz : z ∈ ks2 := hz
      rw [eks] at hz
      rcases inPut_mem (List.mem_filter.mp hz).1 with y | ⟨_, _, y3, y4⟩
      · exact List.mem_append_left _ (ok.pl z y)
      · refine List.mem_append_right _ ?_
        rw [y3, y4, d8]
        exact .head _
  · obtain ⟨xx, hx⟩ : ∃ xx, e.x = some xx := by
      cases hx : e.x with
      | none =>
        have z := n6 hx
        rw [c1] at z
        cases z
      | some xx => exact ⟨xx, rfl⟩
    obtain ⟨qq, hqq, _, d8, dn, dl⟩ := n7 xx hx
    obtain ⟨p2, j2, ws2, bg2, th2, e3, _⟩ := hh.take hx hqq t pa
    rw [d8, dn, dl, e3] at ebad
    cases ebad
  · rcases z with z | z
    · omega
    · rw [n3] at z
      cases z
end
/-! ### both sides of the law -/
abbrev LL5 : Type := Addr × List (Addr × List Int)
structure Sd5 where
  x : LX
  D : DI
  E : List CE
  h : LL5
  t : LL5
  w : LL5
  k : Nat
def Fpay (qs : List QT) : List CE → List (List Int) → Prop
  | [], [] => True
  | e :: E, n :: N => payE qs e n ∧ Fpay qs E N
  | _, _ => False
theorem Fpay.len {qs : List QT} : ∀ {E : List CE} {N : List (List Int)}, Fpay qs E N → E.length = N.length
  | [], [], _ => rfl
  | e :: E, n :: N, h => congrArg (· + 1) (Fpay.len h.2)
theorem Fpay.more {qs new : List QT} : ∀ {E : List CE} {N : List (List Int)}, Fpay qs E N → Fpay (qs ++ new) E N
  | [], [], _ => trivial
  | e :: E, n :: N, h => ⟨payE_more h.1, Fpay.more h.2⟩
theorem Fpay.snoc {qs : List QT} {e : CE} {n : List Int} (p : payE qs e n) : ∀ {E : List CE} {N : List (List Int)}, Fpay qs E N → Fpay qs (E ++ [e]) (N ++ [n])
  | [], [], _ => ⟨p, trivial⟩
  | _ :: E, _ :: N, h => ⟨h.1, Fpay.snoc p h.2⟩
structure Ok5 (z y : Sd5) : Prop where
  hc : HC z.x.S y.x.S z.D z.E y.E
  h : z.h.2.map (fun r => r.2) = z.D.rws
  t : z.t.2.map (fun r => r.2) = z.D.rws.take z.D.j
  w : Fpay z.D.qs z.E ((z.w.2.drop z.k).map fun r => r.2)
structure Sk5 (L : List (Addr × List L2.V)) (po : List PT) (pl : List (Addr × List Int)) (m : Nat) (z : Sd5) : Prop where
  ok : LOk L po pl z.x
  hp : ∀ r ∈ z.h.2, r ∈ pl
  tp : ∀ r ∈ z.t.2, r ∈ pl
  wp : ∀ r ∈ z.w.2, r ∈ pl
  wl : z.w.2.length ≤ m
  rl : z.D.rws.length ≤ 3
  ql : z.D.qs.length ≤ 8 * z.D.rws.length
theorem Sk5.mono {L L' : List (Addr × List L2.V)} {po po' : List PT} {pl pl' : List (Addr × List Int)} {m m' : Nat} {z : Sd5} (h : Sk5 L po pl m z) (hL : ∀ q ∈ L, q ∈ L') (hp : ∀ p ∈ po, p ∈ po') (hl : ∀ z ∈ pl, z ∈ pl') (hm : m ≤ m') : Sk5 L' po' pl' m' z := ⟨h.ok.mono hL hp hl, fun r hr => hl r (h.hp r hr), fun r hr => hl r (h.tp r hr), fun r hr => hl r (h.wp r hr), Nat.le_trans h.wl hm, h.rl, h.ql⟩
structure N5 (L : List (Addr × List L2.V)) (po : List PT) (pl : List (Addr × List Int)) (m : Nat) (z y : Sd5) : Prop where
  o1 : Ok5 z y
  o2 : Ok5 y z
  s1 : Sk5 L po pl m z
  s2 : Sk5 L po pl m y
  kp : KP L po
theorem N5.swap {L : List (Addr × List L2.V)} {po : List PT} {pl : List (Addr × List Int)} {m : Nat} {z y : Sd5} (h : N5 L po pl m z y) : N5 L po pl m y z := ⟨h.o2, h.o1, h.s2, h.s1, h.kp⟩
abbrev sw (j : Nat) (a b : L2.V) : List L2.V := if j = 0 then [a, b] else [b, a]
theorem sw_len {j : Nat} {a b : L2.V} : (sw j a b).length = 2 := by
  unfold sw
  split <;> rfl
theorem sw_j {j : Nat} {a b : L2.V} (h : j < 2) : (sw j a b)[j]? = some a := by
  match j, h with
  | 0, _ => rfl
  | 1, _ => rfl
theorem sw_o {j : Nat} {a b : L2.V} (h : j < 2) : (sw j a b)[1 - j]? = some b := by
  match j, h with
  | 0, _ => rfl
  | 1, _ => rfl
theorem sw_set {j : Nat} {a b a' : L2.V} (h : j < 2) : (sw j a b).set j a' = sw j a' b := by
  match j, h with
  | 0, _ => rfl
  | 1, _ => rfl
theorem sw_seto {j : Nat} {a b b' : L2.V} (h : j < 2) : (sw j a b).set (1 - j) b' = sw j a b' := by
  match j, h with
  | 0, _ => rfl
  | 1, _ => rfl
abbrev fL (u : LL5) : Th := tL u.1 (refsR u.2)
abbrev R45 (ll lh lt lw : Addr) (j : Nat) (z y : Sd5) : List Th := [tL ll (sw j (.ref z.x.A.r) (.ref y.x.A.r)), tL lh (sw j (.ref z.h.1) (.ref y.h.1)), tL lt (sw j (.ref y.t.1) (.ref z.t.1)), tL lw (sw j (.ref z.w.1) (.ref y.w.1)), fL z.h, fL y.h, fL z.t, fL y.t, fL z.w, fL y.w]
abbrev V45 (CB CI CL : Addr) (b : Addr × Addr) (ll lh lt lw : Addr) (po : List PT) (pl : List (Addr × List Int)) (j : Nat) (z y : Sd5) : List Th := [tB b, tG ([z.x, y.x].map (tX CB CI CL)), tG (po.map fN), tG (pl.map fR)] ++ R45 ll lh lt lw j z y
theorem V45.swap {K : PySem.W.Frag} {L : List (Addr × List L2.V)} {T0 : List (Addr × Str)} {H : Hp} {CB CI CL : Addr} {b : Addr × Addr} {ll lh lt lw : Addr} {po : List PT} {pl : List (Addr × List Int)} {z y : Sd5} (h : Hw K L T0 (V45 CB CI CL b ll lh lt lw po pl 0 z y) H) : Hw K L T0 (V45 CB CI CL b ll lh lt lw po pl 1 y z) H := by
  have h1 : Hw K L T0 (tG ([z.x, y.x].map (tX CB CI CL)) :: [tB b, tG (po.map fN), tG (pl.map fR), tL ll [.ref z.x.A.r, .ref y.x.A.r], tL lh [.ref z.h.1, .ref y.h.1], tL lt [.ref y.t.1, .ref z.t.1], tL lw [.ref z.w.1, .ref y.w.1], fL y.h, fL z.h, fL y.t, fL z.t, fL y.w, fL z.w]) H := h.sel [1, 0, 2, 3, 4, 5, 6, 7, 9, 8, 11, 10, 13, 12] (by decide)
  have h2 : Hw K L T0 ([tX CB CI CL y.x, tX CB CI CL z.x] ++ [tB b, tG (po.map fN), tG (pl.map fR), tL ll [.ref z.x.A.r, .ref y.x.A.r], tL lh [.ref z.h.1, .ref y.h.1], tL lt [.ref y.t.1, .ref z.t.1], tL lw [.ref z.w.1, .ref y.w.1], fL y.h, fL z.h, fL y.t, fL z.t, fL y.w, fL z.w]) H := (Hw.ungrp (As := [tX CB CI CL z.x, tX CB CI CL y.x]) h1).sel [1, 0, 2, 3, 4, 5, 6, 7, 8, 9, 10, 11, 12, 13, 14] (by decide)
  exact (Hw.grp (As := [tX CB CI CL y.x, tX CB CI CL z.x]) h2).sel [1, 0, 2, 3, 4, 5, 6, 7, 8, 9, 10, 11, 12, 13] (by decide)
theorem V45.swapB {K : PySem.W.Frag} {L : List (Addr × List L2.V)} {T0 : List (Addr × Str)} {H : Hp} {CB CI CL : Addr} {b : Addr × Addr} {ll lh lt lw : Addr} {po : List PT} {pl : List (Addr × List Int)} {z y : Sd5} (h : Hw K L T0 (V45 CB CI CL b ll lh lt lw po pl 1 y z) H) : Hw K L T0 (V45 CB CI CL b ll lh lt lw po pl 0 z y) H := by
  have h1 : Hw K L T0 (tG ([y.x, z.x].map (tX CB CI CL)) :: [tB b, tG (po.map fN), tG (pl.map fR), tL ll [.ref z.x.A.r, .ref y.x.A.r], tL lh [.ref z.h.1, .ref y.h.1], tL lt [.ref y.t.1, .ref z.t.1], tL lw [.ref z.w.1, .ref y.w.1], fL z.h, fL y.h, fL z.t, fL y.t, fL z.w, fL y.w]) H := h.sel [1, 0, 2, 3, 4, 5, 6, 7, 9, 8, 11, 10, 13, 12] (by decide)
  have h2 : Hw K L T0 ([tX CB CI CL z.x, tX CB CI CL y.x] ++ [tB b, tG (po.map fN), tG (pl.map fR), tL ll [.ref z.x.A.r, .ref y.x.A.r], tL lh [.ref z.h.1, .ref y.h.1], tL lt [.ref y.t.1, .ref z.t.1], tL lw [.ref z.w.1, .ref y.w.1], fL z.h, fL y.h, fL z.t, fL y.t, fL z.w, fL y.w]) H := (Hw.ungrp (As := [tX CB CI CL y.x, tX CB CI CL z.x]) h1).sel [1, 0, 2, 3, 4, 5, 6, 7, 8, 9, 10, 11, 12, 13, 14] (by decide)
  exact (Hw.grp (As := [tX CB CI CL z.x, tX CB CI CL y.x]) h2).sel [1, 0, 2, 3, 4, 5, 6, 7, 8, 9, 10, 11, 12, 13] (by decide)
theorem V45.orient {K : PySem.W.Frag} {L : List (Addr × List L2.V)} {T0 : List (Addr × Str)} {H : Hp} {CB CI CL : Addr} {b : Addr × Addr} {ll lh lt lw : Addr} {po : List PT} {pl : List (Addr × List Int)} {z0 z1 : Sd5} (h : Hw K L T0 (V45 CB CI CL b ll lh lt lw po pl 0 z0 z1) H) {j : Nat} (hj : j < 2) : ∃ z y, Hw K L T0 (V45 CB CI CL b ll lh lt lw po pl j z y) H ∧ ((j = 0 ∧ z = z0 ∧ y = z1) ∨ (j = 1 ∧ z = z1 ∧ y = z0)) := by
  match j, hj with
  | 0, _ => exact ⟨z0, z1, h, .inl ⟨rfl, rfl, rfl⟩⟩
  | 1, _ => exact ⟨z1, z0, V45.swap h, .inr ⟨rfl, rfl, rfl⟩⟩
theorem V45.back {K : PySem.W.Frag} {L : List (Addr × List L2.V)} {T0 : List (Addr × Str)} {H : Hp} {CB CI CL : Addr} {b : Addr × Addr} {ll lh lt lw : Addr} {po : List PT} {pl : List (Addr × List Int)} {z y : Sd5} {j : Nat} (hj : j < 2) (h : Hw K L T0 (V45 CB CI CL b ll lh lt lw po pl j z y) H) : ∃ z0 z1, Hw K L T0 (V45 CB CI CL b ll lh lt lw po pl 0 z0 z1) H ∧ ((j = 0 ∧ z = z0 ∧ y = z1) ∨ (j = 1 ∧ z = z1 ∧ y = z0)) := by
  match j, hj with
  | 0, _ => exact ⟨z, y, h, .inl ⟨rfl, rfl, rfl⟩⟩
  | 1, _ => exact ⟨y, z, V45.swapB h, .inr ⟨rfl, rfl, rfl⟩⟩
theorem up_swap {H : Hp} {a p : Addr} {o o' : HO} (e : H a = some o) (n : noT o) (np : H p = none) (pl : plain o' := by exact trivial) : Up (tO a o) [tO p o'] H (upd H p o') := by
  have u := up_new (o := o') np pl
  exact ⟨⟨fun x o hx he => u.mv.kp x o (fun z => by cases z) he, u.mv.al⟩, u.nt, u.hs, fun x hx y hy => (u.ow x hx y hy).elim (fun z => by cases z) .inr⟩
/-! ### how much is still to do -/
def fin5 (z : Sd5) : Prop := z.D.bse = z.D.qs.length
def wk5 (z y : Sd5) : Nat := wk z.x.S y.x.S z.D
open Classical in
noncomputable def ms5 (z y : Sd5) : Nat := if fin5 z then 0 else 1 + wk5 z y
structure HS5 (z y z' y' : Sd5) : Prop where
  qz : z'.D.qs = z.D.qs
  qy : y'.D.qs = y.D.qs
  ez : z'.E = []
  ey : y'.E = y.E
  p1 : z.D.bse < z.D.qs.length → y'.x.S.owes = true
  p2 : z.x.S.owes = true ∨ z.D.bse < z.D.qs.length → y'.D.bse = z'.x.S.place
  bz : z'.D.bse = z.D.bse
  by_ : y.D.bse ≤ y'.D.bse
  pz : z'.x.S.place = z.x.S.place
  py : y.x.S.place ≤ y'.x.S.place
  wz : z.E = [] → z.D.bse < z.D.qs.length → z.D.bse = y.x.S.place → wk5 z' y' < wk5 z y
  wy : wk5 y' z' ≤ wk5 y z
structure Fa5 (z y : Sd5) : Prop where
  b1 : z.D.bse ≤ y.x.S.place
  b2 : y.x.S.place ≤ z.D.qs.length
theorem Ok5.fa {z y : Sd5} (h : Ok5 z y) : Fa5 z y := ⟨h.hc.lo, by have := h.hc.hi; have := h.hc.ds; have := h.hc.sn; omega⟩
theorem Ok5.wkle {z y : Sd5} (h : Ok5 z y) : wk5 z y ≤ 6 * z.D.qs.length + 4 := by
  have hl := h.hc.slen
  have hw := h.hc.win
  have : posn z.x.S y.x.S.place ≤ (z.x.S.sent.map fun p => p.place).length := List.idxOf_le_length
  rw [List.length_map] at this
  unfold wk5 wk
  omega
/-- what holds ahead of a round's first step and of its second -/
def Gr0 (t : Nat) (z0 z1 : Sd5) : Prop := t = 0 ∨ (z0.E = [] ∧ z1.E = [] ∧ (fin5 z0 ∨ z0.D.bse = z1.x.S.place) ∧ (fin5 z1 ∨ z1.D.bse = z0.x.S.place ∨ z0.x.S.owes = true) ∧ ms5 z0 z1 + ms5 z1 z0 + t ≤ 6 * (z0.D.qs.length + z1.D.qs.length) + 11 ∧ ¬ (fin5 z0 ∧ fin5 z1))
def Gr1 (t : Nat) (z0 z1 : Sd5) : Prop := z0.E = [] ∧ (fin5 z0 ∨ z1.x.S.owes = true) ∧ (t = 0 ∨ (z1.E = [] ∧ (fin5 z1 ∨ z1.D.bse = z0.x.S.place) ∧ (¬ (fin5 z0 ∧ fin5 z1) → ms5 z0 z1 + ms5 z1 z0 + t ≤ 6 * (z0.D.qs.length + z1.D.qs.length) + 11) ∧ (fin5 z1 → ¬ fin5 z0 → ms5 z0 z1 + ms5 z1 z0 + (t + 1) ≤ 6 * (z0.D.qs.length + z1.D.qs.length) + 11)))
def Gr2 (t : Nat) (z0 z1 : Sd5) : Prop := z0.E = [] ∧ z1.E = [] ∧ (fin5 z0 ∨ z0.D.bse = z1.x.S.place) ∧ (fin5 z1 ∨ z0.x.S.owes = true) ∧ (¬ (fin5 z0 ∧ fin5 z1) → ms5 z0 z1 + ms5 z1 z0 + (t + 1) ≤ 6 * (z0.D.qs.length + z1.D.qs.length) + 11)
theorem HS5.finz {z y z' y' : Sd5} (h : HS5 z y z' y') : fin5 z' ↔ fin5 z := by
  unfold fin5
  rw [h.bz, h.qz]
theorem HS5.finy {z y z' y' : Sd5} (h : HS5 z y z' y') (o : Ok5 y' z') : fin5 y → fin5 y' := fun f => by
  unfold fin5 at f ⊢
  have := h.by_
  have := o.fa.b1
  have := o.fa.b2
  rw [h.qy] at *
  omega
theorem HS5.msy {z y z' y' : Sd5} (h : HS5 z y z' y') (o : Ok5 y' z') : ms5 y' z' ≤ ms5 y z := by
  unfold ms5
  by_cases f : fin5 y
  · rw [if_pos f, if_pos (h.finy o f)]
    exact Nat.le_refl _
  · rw [if_neg f]
    split
    · omega
    · have := h.wy
      omega
theorem HS5.msz {z y z' y' : Sd5} (h : HS5 z y z' y') (o : Ok5 z y) (e : z.E = []) (a : fin5 z ∨ z.D.bse = y.x.S.place) : ms5 z' y' ≤ ms5 z y ∧ (¬ fin5 z → ms5 z' y' + 1 ≤ ms5 z y) := by
  unfold ms5
  by_cases f : fin5 z
  · rw [if_pos f, if_pos (h.finz.mpr f)]
    exact ⟨Nat.le_refl _, fun n => absurd f n⟩
  · rw [if_neg f, if_neg (fun g => f (h.finz.mp g))]
    have hb := o.fa.b1
    have hc := o.fa.b2
    have hlt : z.D.bse < z.D.qs.length := by
      unfold fin5 at f
      omega
    have := h.wz e hlt (a.elim (fun g => absurd g f) id)
    exact ⟨by omega, fun _ => by omega⟩
theorem Gr0.step {t : Nat} {z0 z1 a0 a1 : Sd5} (g : Gr0 t z0 z1) (h : HS5 z0 z1 a0 a1) (o0 : Ok5 z0 z1) (o1 : Ok5 a1 a0) : Gr1 t a0 a1 := by
  refine ⟨h.ez, ?_, ?_⟩
  · by_cases f : fin5 z0
    · exact .inl (h.finz.mpr f)
    · right
      refine h.p1 ?_
      have := o0.fa.b1
      have := o0.fa.b2
      unfold fin5 at f
      omega
  · rcases g with g | ⟨e0, e1, a, c, m, nf⟩
    · exact .inl g
    · have m0 := h.msz o0 e0 a
      have m1 := h.msy o1
      have ql : 6 * (a0.D.qs.length + a1.D.qs.length) = 6 * (z0.D.qs.length + z1.D.qs.length) := by rw [h.qz, h.qy]
      refine .inr ⟨h.ey.trans e1, ?_, fun _ => by omega, fun _ f0 => ?_⟩
      · rcases c with f | e | e
        · exact .inl (h.finy o1 f)
        · right
          have p1 := h.pz
          have p2 := h.by_
          have p3 := o1.fa.b1
          omega
        · exact .inr (h.p2 (.inl e))
      · have := m0.2 (fun f => f0 (h.finz.mpr f))
        omega
theorem Gr1.step {t : Nat} {z0 z1 a0 a1 : Sd5} (g : Gr1 t z0 z1) (h : HS5 z1 z0 a1 a0) (o0 : Ok5 z1 z0) (o1 : Ok5 a0 a1) (o2 : Ok5 a1 a0) : Gr2 t a0 a1 := by
  obtain ⟨e0, c0, g⟩ := g
  refine ⟨h.ey.trans e0, h.ez, ?_, ?_, ?_⟩
  · rcases c0 with f | e
    · exact .inl (h.finy o1 f)
    · exact .inr (h.p2 (.inl e))
  · by_cases f : fin5 z1
    · exact .inl (h.finz.mpr f)
    · right
      refine h.p1 ?_
      have := o0.fa.b1
      have := o0.fa.b2
      unfold fin5 at f
      omega
  · intro nf
    have ql : 6 * (a0.D.qs.length + a1.D.qs.length) = 6 * (z0.D.qs.length + z1.D.qs.length) := by rw [h.qz, h.qy]
    rcases g with g | ⟨e1, a, m, m2⟩
    · have w0 := o1.wkle
      have w1 := o2.wkle
      have : ms5 a0 a1 ≤ 1 + wk5 a0 a1 := by
        unfold ms5
        split <;> omega
      have : ms5 a1 a0 ≤ 1 + wk5 a1 a0 := by
        unfold ms5
        split <;> omega
      subst g
      omega
    · have m0 := h.msz o0 e1 a
      have m1 := h.msy o1
      by_cases f1 : fin5 z1
      · have f0 : ¬ fin5 z0 := fun f => nf ⟨h.finy o1 f, h.finz.mpr f1⟩
        have := m2 f1 f0
        omega
      · have := m0.2 f1
        have := m (fun z => f1 z.2)
        omega
/-- what is idle has told all -/
theorem HC.idle {S R : LkS} {D : DI} {E F : List CE} (h : HC S R D E F) : (S.queue.length = 0 ∧ S.sent.length = 0) ↔ D.bse = D.qs.length := by
  have h1 := h.qlen
  have h2 := h.slen
  have h3 := h.bs
  have h4 := h.sn
  omega
theorem HC.all {S R : LkS} {D : DI} {E F : List CE} (h : HC S R D E F) (f : D.bse = D.qs.length) : D.rws.take D.j = D.rws := by
  have h1 := h.lo
  have h2 := h.hi
  have h3 := h.ds
  have h4 := h.sn
  have e : R.place = D.qs.length := by omega
  have hj := h.pos.jl
  refine List.take_of_length_le ?_
  rcases Nat.lt_or_ge D.j D.rws.length with z | z
  · have a := h.pos.hi z
    have b := endN_mono D.rws (show D.j + 1 ≤ D.rws.length by omega)
    have c := h.w.qok.len
    omega
  · exact z
theorem pcN_few {ws : Wds} {r : List Int} : pcN (bkPack ws r) ≤ 1 + r.length / 4 := by
  have h := bkPack_len ws r
  unfold pcN
  omega
/-! ### one half of a round -/
structure DL5 (zf y zc yc : Sd5) (k : Nat) : Prop where
  x : zc.x = zf.x
  w : zc.w = zf.w
  h : zc.h = zf.h
  kk : zc.k = k
  rws : zc.D.rws = zf.D.rws
  qs : zc.D.qs = zf.D.qs
  bse : zc.D.bse = zf.D.bse
  snt : zc.D.snt = zf.D.snt
  E : zc.E = zf.E.drop k
  yE : yc.E = y.E
  yk : yc.k = y.k
  yw : yc.w = y.w
  yh : yc.h = y.h
  yrws : yc.D.rws = y.D.rws
  yqs : yc.D.qs = y.D.qs
  ysnt : yc.D.snt = y.D.snt
  yb : y.D.bse ≤ yc.D.bse
  yp : y.x.S.place ≤ yc.x.S.place
  ypo : posn yc.x.S zf.x.S.place ≤ posn y.x.S zf.x.S.place
  la : ∀ e, zf.E[k - 1]? = some e → 0 < k → yc.D.bse = e.a ∧ (e.x ≠ none → yc.x.S.owes = true)
  fi : ∀ e, zf.E[0]? = some e → 0 < k → e.x = some y.x.S.place → y.x.S.place < yc.x.S.place
theorem DL5.start {zf y : Sd5} (hk : zf.k = 0) : DL5 zf y zf y 0 := ⟨rfl, rfl, rfl, hk, rfl, rfl, rfl, rfl, rfl, rfl, rfl, rfl, rfl, rfl, rfl, rfl, Nat.le_refl _, Nat.le_refl _, Nat.le_refl _, fun e _ z => absurd z (Nat.lt_irrefl _), fun e _ z => absurd z (Nat.lt_irrefl _)⟩
theorem DL5.hs {z y zf zc yc : Sd5} {snt' : Nat} {Ne : List CE} {o : Option (List Int)} (o0 : Ok5 z y) (fr : FrD z.x.S zf.x.S y.x.S z.D snt' Ne o) (eD : zf.D = { z.D with snt := snt' }) (eE : zf.E = z.E ++ Ne) (dl : DL5 zf y zc yc zf.E.length) (oc : Ok5 zc yc) {zn : Sd5} (nx : zn.x = zc.x) (nD : zn.D = zc.D) (nE : zn.E = []) : HS5 z y zn yc := by
  have last : ∀ e, Ne = [e] → yc.D.bse = e.a ∧ (e.x ≠ none → yc.x.S.owes = true) := fun e h => by
    refine dl.la e ?_ ?_
    · rw [eE, h, List.length_append]
      show (z.E ++ [e])[z.E.length + 1 - 1]? = some e
      rw [Nat.add_sub_cancel, List.getElem?_append_right (Nat.le_refl _), Nat.sub_self]
      rfl
    · rw [eE, h, List.length_append]
      exact Nat.succ_pos _
  have ex : zn.x.S = zf.x.S := by rw [nx, dl.x]
  have eq : zn.D.qs = z.D.qs := by rw [nD, dl.qs, eD]
  have hfa := oc.fa
  have hb2 := hfa.b2
  rw [dl.qs, eD] at hb2
  have hb2 : yc.x.S.place ≤ z.D.qs.length := hb2
  have hsl := oc.hc.slen
  have hwn := oc.hc.win
  have hpo : posn zn.x.S yc.x.S.place ≤ 4 := by
    have : posn zn.x.S yc.x.S.place ≤ (zn.x.S.sent.map fun p => p.place).length := List.idxOf_le_length
    rw [List.length_map, nx] at this
    rw [nx]
    omega
  refine ⟨eq, dl.yqs, nE, dl.yE, fun hlt => ?_, fun hd => ?_, by rw [nD, dl.bse, eD], dl.yb, by rw [ex, fr.pl], dl.yp, fun e0 hlt eb => ?_, ?_⟩
  · obtain ⟨e, x, hN, hx, _⟩ := fr.lv hlt
    exact (last e hN).2 (by rw [hx]; exact fun z => nomatch z)
  · obtain ⟨e, hN⟩ : ∃ e, Ne = [e] := by
      rcases fr.ne with ⟨_, hN, how⟩ | ⟨_, e, _, hN, _⟩
      · rcases hd with hd | hd
        · rw [how] at hd
          cases hd
        · obtain ⟨e, x, hN2, _⟩ := fr.lv hd
          exact ⟨e, hN2⟩
      · exact ⟨e, hN⟩
    rw [(last e hN).1, fr.na e (by rw [hN]; exact .head _), ex, fr.pl]
  · obtain ⟨e, x, hN, hx, hlv⟩ := fr.lv hlt
    have hsl' := fr.sl
    unfold wk5 wk
    rw [eq, ex, show zn.D.snt = snt' by rw [nD, dl.snt, eD]]
    rw [ex] at hpo
    have hyp := dl.yp
    rcases Nat.lt_or_ge y.x.S.place yc.x.S.place with c | c
    · omega
    · have ep : yc.x.S.place = y.x.S.place := by omega
      rcases hlv eb with z1 | z1
      · have := dl.fi e (by rw [eE, e0, hN]; rfl) (by rw [eE, hN, List.length_append]; exact Nat.succ_pos _) (by rw [hx, z1])
        omega
      · rw [ep]
        unfold wk at z1
        have : posn { zf.x.S with queue := zf.x.S.queue, sent := zf.x.S.sent, owes := false } y.x.S.place = posn zf.x.S y.x.S.place := rfl
        omega
  · unfold wk5 wk
    rw [dl.yqs, dl.ysnt, ex, show z.x.S.place = zf.x.S.place from fr.pl.symm]
    have := dl.ypo
    omega
/-- a comprehension over zip of two lists of one length -/
theorem lc_zip {a b : Addr} {xs ys : List V} {g : TG} {tt : TT} {te : TE} {vs : List Nat} {σ : L2.St} {H1 : Hp} {D : Addr} {Qd : Hp → Prop} (hl : xs.length = ys.length) (Pv : Nat → Hp → Prop) (h0 : Pv 0 (upd H1 D (.lst []))) (hq : ∀ i H, Pv i H → SqL K H a xs ∧ SqL K H b ys)
    (hs : ∀ (i : Nat) (x y : V) (T : Addr) (H : Hp), xs[i]? = some x → ys[i]? = some y → Pv i H → H T = none → g (.ref T) (wipe σ vs) (upd H T (.tup [x, y])) fun σ2 H2 => wipe σ2 vs = wipe σ vs ∧ tt σ2 H2 fun b H3 =>
      if b = true then te σ2 H3 fun y H4 => ∃ acc, H4 D = some (.lst acc) ∧ acc.length < sizeLine ∧ Pv (i + 1) (upd H4 D (.lst (acc ++ [y]))) else Pv (i + 1) H3) (hd : ∀ H, Pv xs.length H → Qd H) :
    ∃ W : Nat → Nat → Hp → Prop, (∃ m, W 0 m (upd H1 D (.lst []))) ∧ ∀ i m H, W i m H →
      ((Itz K a b).stop i H ∧ Qd H) ∨ ((Itz K a b).go i H ∧ ∃ Nx : Hp → Prop, (∀ H', Nx H' → ∃ m', m' < m ∧ W (i + 1) m' H') ∧ ∀ x H', (Itz K a b).yld i H x H' → g x (wipe σ vs) H' fun σ2 H2 => wipe σ2 vs = wipe σ vs ∧ tt σ2 H2 fun b H3 =>
        if b = true then te σ2 H3 fun y H4 => ∃ acc, H4 D = some (.lst acc) ∧ acc.length < sizeLine ∧ Nx (upd H4 D (.lst (acc ++ [y]))) else Nx H3) := by
  refine ⟨fun i m H => m = xs.length - i ∧ i ≤ xs.length ∧ Pv i H, ⟨xs.length, rfl, Nat.zero_le _, h0⟩, ?_⟩
  rintro i m H ⟨rfl, hi, p⟩
  obtain ⟨qx, qy⟩ := hq i H p
  by_cases hlt : i < xs.length
  · have hx : xs[i]? = some xs[i] := List.getElem?_eq_getElem hlt
    have hlt2 : i < ys.length := by omega
    have hy : ys[i]? = some ys[i] := List.getElem?_eq_getElem hlt2
    refine .inr ⟨⟨xs, ys, _, _, qx, qy, hx, hy⟩, Pv (i + 1), fun H' p' => ⟨xs.length - (i + 1), by omega, rfl, hlt, p'⟩, fun v H' y => ?_⟩
    obtain ⟨T, x', y', rfl, hT, rfl, f1, f2⟩ := y
    exact hs i x' y' T H (f1 xs qx) (f2 ys qy) p hT
  · have e : i = xs.length := by omega
    subst e
    exact .inl ⟨⟨xs, ys, qx, qy, Or.inl (Nat.le_refl _)⟩, hd H p⟩
theorem asgG_by {te : TE} {g : TG} {u : TS} {D : Ends} {σ : L2.St} {H : Hp} (J : V → Hp → Prop) (h2 : ∀ v H1, J v H1 → g v σ H1 (u D)) (h1 : (∀ v H1, J v H1 → g v σ H1 (u D)) → te σ H (fun x H1 => g x σ H1 (u D))) : tSeq (tAsg te g) u D σ H := h1 h2
theorem ixN_nat {i n : Nat} (h : i < n) : ixN n (i : Int) = some i := by
  unfold ixN
  rw [if_pos (by omega), if_pos (by omega)]
  simp
theorem sc_law : FnScope ["_law_script", "_law_bag_here", "_law_links", "_law_handed", "_law_told", "_law_ways", "_law_pieces", "_law_turn", "_law_at", "_law_way", "_law_payload", "_law_which"] ["_law_script"] (defScope s_law) := ⟨rfl, rfl, rfl, by decide +kernel, rfl, by decide +kernel, by decide +kernel⟩
structure I45 (i pc : Nat) (L : List (Addr × List L2.V)) (po : List PT) (pl : List (Addr × List Int)) (z y : Sd5) : Prop where
  n : N5 L po pl i z y
  kz : z.k = 0
  ky : y.k = 0
  p1 : 2 + z.D.qs.length + y.D.qs.length ≤ pc
  p2 : pc ≤ 2 + 8 * (z.D.rws.length + y.D.rws.length)
theorem I45.swap {i pc : Nat} {L : List (Addr × List L2.V)} {po : List PT} {pl : List (Addr × List Int)} {z y : Sd5} (h : I45 i pc L po pl z y) : I45 i pc L po pl y z := ⟨h.n.swap, h.ky, h.kz, by have := h.p1; omega, by have := h.p2; omega⟩
abbrev G45 (a : Addr) (b : Addr × Addr) (ll lh lt lw : Addr) (r : List (Option L2.V)) : L2.St := some (.ref a) :: some (.ref b.1) :: some (.ref ll) :: some (.ref lh) :: some (.ref lt) :: some (.ref lw) :: r
def J45 (K : PySem.W.Frag) (CB CI CL a : Addr) (b : Addr × Addr) (ll lh lt lw : Addr) (i : Nat) (σ : L2.St) (H' : Hp) : Prop := ∃ (L : List (Addr × List L2.V)) (po : List PT) (pl : List (Addr × List Int)) (z y : Sd5) (pc : Nat) (y7 y8 y9 y10 y11 : Option L2.V), σ = G45 a b ll lh lt lw [some (.int (pc : Int)), y7, y8, y9, y10, y11] ∧ Hw K L [] (V45 CB CI CL b ll lh lt lw po pl 0 z y) H' ∧ I45 i pc L po pl z y
def GrU (u t : Nat) (z0 z1 : Sd5) : Prop := if u = 0 then Gr0 t z0 z1 else if u = 1 then Gr1 t z0 z1 else Gr2 t z0 z1
structure K45 (pc : Nat) (L : List (Addr × List L2.V)) (po : List PT) (pl : List (Addr × List Int)) (z y : Sd5) : Prop where
  n : N5 L po pl 60 z y
  kz : z.k = 0
  ky : y.k = 0
  p1 : 2 + z.D.qs.length + y.D.qs.length ≤ pc
theorem K45.swap {pc : Nat} {L : List (Addr × List L2.V)} {po : List PT} {pl : List (Addr × List Int)} {z y : Sd5} (h : K45 pc L po pl z y) : K45 pc L po pl y z := ⟨h.n.swap, h.ky, h.kz, by have := h.p1; omega⟩
def JT45 (K : PySem.W.Frag) (CB CI CL a : Addr) (b : Addr × Addr) (ll lh lt lw : Addr) (pc t : Nat) (σ : L2.St) (H' : Hp) : Prop := ∃ (L : List (Addr × List L2.V)) (po : List PT) (pl : List (Addr × List Int)) (z y : Sd5) (y7 y8 y9 y10 y11 : Option L2.V), σ = G45 a b ll lh lt lw [some (.int (pc : Int)), y7, y8, y9, y10, y11] ∧ Hw K L [] (V45 CB CI CL b ll lh lt lw po pl 0 z y) H' ∧ K45 pc L po pl z y ∧ Gr0 t z y
def JU45 (K : PySem.W.Frag) (CB CI CL a : Addr) (b : Addr × Addr) (ll lh lt lw : Addr) (pc t u : Nat) (σ : L2.St) (H' : Hp) : Prop := ∃ (L : List (Addr × List L2.V)) (po : List PT) (pl : List (Addr × List Int)) (z y : Sd5) (y8 y9 y10 y11 : Option L2.V), σ = G45 a b ll lh lt lw [some (.int (pc : Int)), some (.int (0 + (t : Int))), y8, y9, y10, y11] ∧ Hw K L [] (V45 CB CI CL b ll lh lt lw po pl 0 z y) H' ∧ K45 pc L po pl z y ∧ GrU u t z y
theorem shaped_2LL (a b : List (List Int)) : SeqAt.shaped (.list [dLL a, dLL b]) = true := by
  unfold SeqAt.shaped
  rw [Bool.and_eq_true]
  refine ⟨?_, decide_eq_true ?_⟩
  · show (PyData.canLayAll0 (a.map dI) && (PyData.canLayAll0 (b.map dI) && true)) = true
    rw [canLay_LL a, canLay_LL b]
    rfl
  · show max (PyData.depthAll (a.map dI) + 1) (max (PyData.depthAll (b.map dI) + 1) 0) + 1 ≤ 64
    have := depth_LL a
    have := depth_LL b
    omega
def spLaw (K : PySem.W.Frag) : Sp := fun vs H Q _ => ∃ (a : Addr) (ns : List Int), vs = [.ref a] ∧ SqL K H a (ns.map V.int) ∧ ∀ H', Q (.bl true) H'
theorem ok_law {f CL CI CB cB cF cL cC cY cU : Addr} {fd : FuncData} {k n : Nat} (F : Fun K "law" "law" s_law f fd) (n_len : mg "len" = none) (n_list : mg "list" = none) (n_range : mg "range" = none)
    (c_Link : CalN P w K mg base k "Link" CL ["self"] (spLkI CB CI CL)) (c_Link_hand : CalM (L2.CX P w) P w K mg base (k + 1) CL "hand" ["self", "row"] (spHand K CB CI CL cY cL cU)) (c_Link_take : CalM (L2.CX P w) P w K mg base (k + 1) CL "take" ["self", "payload"] (spLkTake K CB CI CL cB cF cL cC)) (c_Link_frame : CalM CX0 P w K mg base (k + 1) CL "frame" ["self"] (spFrame K CB CI CL)) (c_Link_unanswered : CalM CX0 P w K mg base (k + 1) CL "unanswered" ["self"] (spUnans K CB CI CL)) (c_Link_idle : CalM CX0 P w K mg base (k + 1) CL "idle" ["self"] (spIdle CB CI CL))
    (c__law_bag : Cal P w K mg base (k + 1) "_law_bag" ["_law_script"] (spBag K)) (c__law_pick : Cal P w K mg base (k + 1) "_law_pick" ["_law_bag_here", "_law_top"] spPick) (c__law_same : Cal P w K mg base (k + 1) "_law_same" ["_law_found", "_law_due"] (spSame K (n + 4))) (c__law_row : Cal P w K mg base (k + 1) "_law_row" ["_law_bag_here", "_law_most"] spRow) :
    FnOk P w K mg base CX0 (k + 2) f fd ["_law_script"] (spLaw K) := by
  have sc := sc_law
  refine F.ok sc (fun vs H Q E h => ?_) (fun cdv A0 outer s H vs Q E hr h => ?_)
  · obtain ⟨a, ns, rfl, _⟩ := h
    rfl
  · obtain ⟨a, ns, rfl, hS, q⟩ := h
    refine ⟨_, (pss_cons (ps_set (i := 1) sc.nd rfl (.inl rfl) (pe_callC c__law_bag hr (by rfl) (pa_cons (pv 0) pa_nil)))
 (pss_cons (ps_set (i := 2) sc.nd rfl (.inl rfl) (pe_lst (pa_cons (pe_makeC0 c_Link hr (by rfl)) (pa_cons (pe_makeC0 c_Link hr (by rfl)) pa_nil))))
 (pss_cons (ps_set (i := 3) sc.nd rfl (.inl rfl) (pe_lst (pa_cons (pe_lst pa_nil) (pa_cons (pe_lst pa_nil) pa_nil))))
 (pss_cons (ps_set (i := 4) sc.nd rfl (.inl rfl) (pe_lst (pa_cons (pe_lst pa_nil) (pa_cons (pe_lst pa_nil) pa_nil))))
 (pss_cons (ps_set (i := 5) sc.nd rfl (.inl rfl) (pe_lst (pa_cons (pe_lst pa_nil) (pa_cons (pe_lst pa_nil) pa_nil))))
 (pss_cons (ps_set (i := 6) sc.nd rfl (.inl rfl) pe_int)
 (pss_cons (ps_for PassesOwn.never rfl (pi_range1 (by rfl) n_range (pa_cons (pe_op op_add pe_int (pe_callC c__law_pick hr (by rfl) (pa_cons (pv 1) (pa_cons pe_int pa_nil)))) pa_nil)) (pg_name (i := 7) sc.nd rfl (.inl rfl))
  (pss_cons (ps_set (i := 8) sc.nd rfl (.inl rfl) (pe_callC c__law_pick hr (by rfl) (pa_cons (pv 1) (pa_cons pe_int pa_nil))))
 (pss_cons (ps_set (i := 9) sc.nd rfl (.inl rfl) (pe_callC c__law_pick hr (by rfl) (pa_cons (pv 1) (pa_cons pe_int pa_nil))))
 (pss_cons (ps_if (PW.pt (pw_and (pt_cmpR op_eq (pv 9) pe_int (nomark _)) (pw_and1 (pt_cmpR op_lt (pe_callB (call_lenK K rfl) (by rfl) n_len PySem.boot_len (pa_cons (pe_ix (ix_listK K rfl) (pv 3) (pv 8) (fun _ _ => rfl)) pa_nil)) pe_int (nomark _)))))
  (pss_cons (ps_expr (pe_bmK K rfl PySem.F.plainAttrs_list PySem.F.slot_list_append PySem.F.type_list_append mt_append (pe_ix (ix_listK K rfl) (pv 3) (pv 8) (fun _ _ => rfl)) (pa_cons (pe_callC c__law_row hr (by rfl) (pa_cons (pv 1) (pa_cons pe_int pa_nil))) pa_nil)))
 (pss_cons (ps_expr (pe_methF (pe_ix (ix_listK K rfl) (pv 2) (pv 8) (fun _ _ => rfl)) c_Link_hand hr (pa_cons (pe_callTy (call_listK K rfl) (by rfl) n_list (by decide +kernel) (pa_cons (pe_ix (ix_listK K rfl) (pe_ix (ix_listK K rfl) (pv 3) (pv 8) (fun _ _ => rfl)) (pe_un un_neg pe_int) (fun _ _ => rfl)) pa_nil)) pa_nil)))
 (pss_one (ps_set (i := 6) sc.nd rfl (.inl rfl) (pe_op op_add (pe_op op_add (pv 6) pe_int) (pe_op op_fdiv (pe_callB (call_lenK K rfl) (by rfl) n_len PySem.boot_len (pa_cons (pe_ix (ix_listK K rfl) (pe_ix (ix_listK K rfl) (pv 3) (pv 8) (fun _ _ => rfl)) (pe_un un_neg pe_int) (fun _ _ => rfl)) pa_nil)) pe_int))))))
  (pss_one (ps_if (pt_cmpR op_lt (pv 9) pe_int (nomark _))
  (pss_cons (ps_set (i := 10) sc.nd rfl (.inl rfl) (pe_methC0 (pe_ix (ix_listK K rfl) (pv 2) (pv 8) (fun _ _ => rfl)) c_Link_frame hr))
 (pss_one (ps_if (pt_cmpR op_notN (pv 10) pe_non (nomark _))
  (pss_one (ps_expr (pe_bmK K rfl PySem.F.plainAttrs_list PySem.F.slot_list_append PySem.F.type_list_append mt_append (pe_ix (ix_listK K rfl) (pv 5) (pv 8) (fun _ _ => rfl)) (pa_cons (pv 10) pa_nil))))
  pss_nil)))
  (pss_one (ps_if (pt_cmpR (op_neDK K rfl hr.units) (pe_ix (ix_listK K rfl) (pv 5) (pv 8) (fun _ _ => rfl)) (pe_lst pa_nil) (nomark _))
  (pss_cons (ps_set (i := 10) sc.nd rfl (.inl rfl) (pe_bmK K rfl PySem.F.plainAttrs_list PySem.F.slot_list_pop PySem.F.type_list_pop mt_popAt (pe_ix (ix_listK K rfl) (pv 5) (pv 8) (fun _ _ => rfl)) (pa_cons pe_int pa_nil)))
 (pss_one (ps_if (pt_cmpR op_gt (pv 9) pe_int (nomark _))
  (pss_one (ps_asg (pe_op op_cat (pe_ix (ix_listK K rfl) (pv 4) (pe_op op_sub pe_int (pv 8)) (fun _ _ => rfl)) (pe_methF (pe_ix (ix_listK K rfl) (pv 2) (pe_op op_sub pe_int (pv 8)) (fun _ _ => rfl)) c_Link_take hr (pa_cons (pv 10) pa_nil))) (pg_sub (pv 4) (pe_op op_sub pe_int (pv 8)) set_list)))
  pss_nil)))
  pss_nil)))))
 (pss_one (ps_for PassesOwn.never rfl (pi_range1 (by rfl) n_range (pa_cons pe_int pa_nil)) (pg_name (i := 11) sc.nd rfl (.inl rfl))
  (pss_one (ps_if (PW.pt (pw_or (pt_cmpR op_gt (pe_callB (call_lenK K rfl) (by rfl) n_len PySem.boot_len (pa_cons (pe_methC0 (pe_ix (ix_listK K rfl) (pv 2) (pv 11) (fun _ _ => rfl)) c_Link_unanswered hr) pa_nil)) pe_int (nomark _)) (pw_or1 (pt_cmpR (op_neDK K rfl hr.units) (pe_ix (ix_listK K rfl) (pv 4) (pe_op op_sub pe_int (pv 11)) (fun _ _ => rfl)) (pe_slice (sl_listK K rfl) (pe_ix (ix_listK K rfl) (pv 3) (pv 11) (fun _ _ => rfl)) po_none (po_some (pe_callB (call_lenK K rfl) (by rfl) n_len PySem.boot_len (pa_cons (pe_ix (ix_listK K rfl) (pv 4) (pe_op op_sub pe_int (pv 11)) (fun _ _ => rfl)) pa_nil)))) (nomark _)))))
  (pss_one (ps_ret pe_bl))
  pss_nil))))))))
 (pss_cons (ps_for PassesOwn.never rfl (pi_range1 (by rfl) n_range (pa_cons (pe_op op_mul pe_int (pv 6)) pa_nil)) (pg_name (i := 7) sc.nd rfl (.inl rfl))
  (pss_cons (ps_for PassesOwn.never rfl (pi_range1 (by rfl) n_range (pa_cons pe_int pa_nil)) (pg_name (i := 8) sc.nd rfl (.inl rfl))
  (pss_cons (ps_set (i := 10) sc.nd rfl (.inl rfl) (pe_methC0 (pe_ix (ix_listK K rfl) (pv 2) (pv 8) (fun _ _ => rfl)) c_Link_frame hr))
 (pss_cons (ps_if (pt_cmpR op_notN (pv 10) pe_non (nomark _))
  (pss_one (ps_expr (pe_bmK K rfl PySem.F.plainAttrs_list PySem.F.slot_list_append PySem.F.type_list_append mt_append (pe_ix (ix_listK K rfl) (pv 5) (pv 8) (fun _ _ => rfl)) (pa_cons (pv 10) pa_nil))))
  pss_nil)
 (pss_cons (ps_for PassesOwn.never rfl (pi_listK K rfl (pe_ix (ix_listK K rfl) (pv 5) (pv 8) (fun _ _ => rfl))) (pg_name (i := 10) sc.nd rfl (.inl rfl))
  (pss_one (ps_asg (pe_op op_cat (pe_ix (ix_listK K rfl) (pv 4) (pe_op op_sub pe_int (pv 8)) (fun _ _ => rfl)) (pe_methF (pe_ix (ix_listK K rfl) (pv 2) (pe_op op_sub pe_int (pv 8)) (fun _ _ => rfl)) c_Link_take hr (pa_cons (pv 10) pa_nil))) (pg_sub (pv 4) (pe_op op_sub pe_int (pv 8)) set_list))))
 (pss_one (ps_asg (pe_lst pa_nil) (pg_sub (pv 5) (pv 8) set_list)))))))
 (pss_one (ps_if (PW.pt (pw_and (pt_val (pe_methC0 (pe_ix (ix_listK K rfl) (pv 2) pe_int (fun _ _ => rfl)) c_Link_idle hr)) (pw_and1 (pt_val (pe_methC0 (pe_ix (ix_listK K rfl) (pv 2) pe_int (fun _ _ => rfl)) c_Link_idle hr)))))
  (pss_one (ps_ret (pe_callC c__law_same hr (by rfl) (pa_cons (pv 4) (pa_cons (pe_lst (pa_cons (pe_ix (ix_listK K rfl) (pv 3) pe_int (fun _ _ => rfl)) (pa_cons (pe_ix (ix_listK K rfl) (pv 3) pe_int (fun _ _ => rfl)) pa_nil))) pa_nil)))))
  pss_nil))))
 (pss_one (ps_ret pe_bl)))))))))), ?_⟩
    rw [start1]
    dsimp only [List.map]
    refine ⟨_, rfl, a, ns, rfl, hS, fun H1 b s1 nb hB => ?_⟩
    have h1 : Hw K [] [] [tB b] H1 := Hw.of (Hs.nil0.cons hB (fun j y hj => by cases hj))
    clear s1 nb hS hB
    refine name_by ?_
    dsimp only
    refine fun x dx nx ndx nex => ⟨x, dx, rfl, upd_same, fun H2 A eA edx u2 => ⟨rfl, ?_⟩⟩
    have h2 := Hw.grp (As := lkTs CB CI CL A ⟨[], 0, [], [], false, [], 0, [], []⟩) (h1.upN (up_made nx ndx u2))
    rw [← eA]
    clear nx ndx nex u2 eA edx h1
    refine fun x dx nx ndx nex => ⟨x, dx, rfl, upd_same, fun H3 A1 eA edx u2 => ⟨rfl, ?_⟩⟩
    have h3 := Hw.grp (As := lkTs CB CI CL A1 ⟨[], 0, [], [], false, [], 0, [], []⟩) (h2.upN (up_made nx ndx u2))
    rw [← eA]
    clear nx ndx nex u2 eA edx h2
    refine ⟨(by show 2 ≤ sizeLine; decide), fun ll nll => ?_⟩
    have h4 := h3.newHU (o := .lst [.ref A.r, .ref A1.r]) nll
    generalize upd H3 ll (.lst [.ref A.r, .ref A1.r]) = H4 at h4 ⊢
    clear h3 nll
    refine name_by ?_
    dsimp only
    refine ⟨Nat.zero_le _, fun g0 ng0 => ?_⟩
    have h5 := h4.newHU (o := .lst []) ng0
    generalize upd H4 g0 (.lst []) = H5 at h5 ⊢
    refine ⟨Nat.zero_le _, fun g1 ng1 => ?_⟩
    have h6 := h5.newHU (o := .lst []) ng1
    generalize upd H5 g1 (.lst []) = H6 at h6 ⊢
    refine ⟨(by show 2 ≤ sizeLine; decide), fun lh nlh => ?_⟩
    have h7 := h6.newHU (o := .lst [.ref g0, .ref g1]) nlh
    generalize upd H6 lh (.lst [.ref g0, .ref g1]) = H7 at h7 ⊢
    clear h4 h5 h6 ng0 ng1 nlh
    refine name_by ?_
    dsimp only
    refine ⟨Nat.zero_le _, fun t1 nt1 => ?_⟩
    have h8 := h7.newHU (o := .lst []) nt1
    generalize upd H7 t1 (.lst []) = H8 at h8 ⊢
    refine ⟨Nat.zero_le _, fun t0 nt0 => ?_⟩
    have h9 := h8.newHU (o := .lst []) nt0
    generalize upd H8 t0 (.lst []) = H9 at h9 ⊢
    refine ⟨(by show 2 ≤ sizeLine; decide), fun lt nlt => ?_⟩
    have h10 := h9.newHU (o := .lst [.ref t1, .ref t0]) nlt
    generalize upd H9 lt (.lst [.ref t1, .ref t0]) = H10 at h10 ⊢
    clear h7 h8 h9 nt0 nt1 nlt
    refine name_by ?_
    dsimp only
    refine ⟨Nat.zero_le _, fun w0 nw0 => ?_⟩
    have h11 := h10.newHU (o := .lst []) nw0
    generalize upd H10 w0 (.lst []) = H11 at h11 ⊢
    refine ⟨Nat.zero_le _, fun w1 nw1 => ?_⟩
    have h12 := h11.newHU (o := .lst []) nw1
    generalize upd H11 w1 (.lst []) = H12 at h12 ⊢
    refine ⟨(by show 2 ≤ sizeLine; decide), fun lw nlw => ?_⟩
    have h13 := h12.newHU (o := .lst [.ref w0, .ref w1]) nlw
    generalize upd H12 lw (.lst [.ref w0, .ref w1]) = H13 at h13 ⊢
    clear h10 h11 h12 nw0 nw1 nlw
    refine name_by ?_
    dsimp only
    refine name_by ?_
    dsimp only
    obtain ⟨S0, eS0⟩ : ∃ S0 : LkS, S0 = ⟨[], 0, [], [], false, [], 0, [], []⟩ := ⟨_, rfl⟩
    rw [← eS0] at h13
    have h14 : Hw K [] [] ([tX CB CI CL ⟨A, S0⟩, tX CB CI CL ⟨A1, S0⟩] ++ [tB b, tL ll [.ref A.r, .ref A1.r], tL lh [.ref g0, .ref g1], tL lt [.ref t1, .ref t0], tL lw [.ref w0, .ref w1], tL g0 [], tL g1 [], tL t0 [], tL t1 [], tL w0 [], tL w1 []]) H13 := h13.sel [11, 10, 12, 9, 6, 3, 0, 8, 7, 4, 5, 2, 1] (by decide)
    obtain ⟨D0, eD0⟩ : ∃ D0 : DI, D0 = ⟨[], [], 0, 0, 0, 0, []⟩ := ⟨_, rfl⟩
    have h15 : Hw K [] [] (V45 CB CI CL b ll lh lt lw [] [] 0 ⟨⟨A, S0⟩, D0, [], (g0, []), (t0, []), (w0, []), 0⟩ ⟨⟨A1, S0⟩, D0, [], (g1, []), (t1, []), (w1, []), 0⟩) H13 := (((Hw.grp (As := [tX CB CI CL ⟨A, S0⟩, tX CB CI CL ⟨A1, S0⟩]) h14).gnil (f := fN)).gnil (f := fR)).sel [3, 2, 1, 0, 4, 5, 6, 7, 8, 9, 10, 11, 12, 13] (by decide)
    clear h13 h14
    have hc0 : HC S0 S0 D0 [] [] := by
      rw [eS0, eD0]
      exact HC.start
    have lk0 : ∀ A : LA, LOk [] [] [] ⟨A, S0⟩ := fun A => by
      rw [eS0]
      exact ⟨(fun q hq => absurd hq List.not_mem_nil), (fun q hq => absurd hq List.not_mem_nil), (fun q hq => absurd hq List.not_mem_nil), (fun q hq => absurd hq List.not_mem_nil), (fun q hq => absurd hq List.not_mem_nil)⟩
    have I0 : I45 0 2 [] [] [] ⟨⟨A, S0⟩, D0, [], (g0, []), (t0, []), (w0, []), 0⟩ ⟨⟨A1, S0⟩, D0, [], (g1, []), (t1, []), (w1, []), 0⟩ := by
      refine ⟨⟨⟨hc0, by rw [eD0]; rfl, by rw [eD0]; rfl, trivial⟩, ⟨hc0, by rw [eD0]; rfl, by rw [eD0]; rfl, trivial⟩, ⟨lk0 A, (fun q hq => absurd hq List.not_mem_nil), (fun q hq => absurd hq List.not_mem_nil), (fun q hq => absurd hq List.not_mem_nil), Nat.le_refl _, by rw [eD0]; exact Nat.zero_le _, by rw [eD0]; exact Nat.zero_le _⟩, ⟨lk0 A1, (fun q hq => absurd hq List.not_mem_nil), (fun q hq => absurd hq List.not_mem_nil), (fun q hq => absurd hq List.not_mem_nil), Nat.le_refl _, by rw [eD0]; exact Nat.zero_le _, by rw [eD0]; exact Nat.zero_le _⟩, fun p hp => absurd hp List.not_mem_nil⟩, rfl, rfl, ?_, ?_⟩
      · rw [eD0]
        exact Nat.le_refl _
      · rw [eD0]
        exact Nat.le_refl _
    clear hc0 lk0
    refine ⟨_, rfl, b, 31, rfl, h15.bag, by decide, by decide, fun H14 d14 mv14 hB14 d0 d1 => ⟨_, _, rfl, rfl, _, rfl, by omega, by omega, ?_⟩⟩
    have j0 : J45 K CB CI CL a b ll lh lt lw 0 (G45 a b ll lh lt lw [some (.int ((2 : Nat) : Int)), none, none, none, none, none]) H14 := ⟨_, _, _, _, _, 2, none, none, none, none, none, rfl, h15.mv mv14 hB14, I0⟩
    clear h15 I0 mv14 hB14 eS0 eD0
    refine for_range (lo := 0) (n := (10 + d14).toNat) (fun i σ H' => J45 K CB CI CL a b ll lh lt lw i σ H') j0 ?_ ?_
    · clear j0 A A1 S0 D0 g0 g1 t0 t1 w0 w1
      rintro i σ H1 hi ⟨L, po, pl, z0, z1, pc, y7, y8, y9, y10, y11, rfl, h1, I0⟩
      have hi40 : i < 41 := by omega
      refine ⟨_, rfl, b, 2, rfl, h1.bag, by decide, by decide, fun H2 at_ mv2 hB2 a0 a1 => ?_⟩
      have h2 := h1.mv mv2 hB2
      clear h1 mv2 hB2
      obtain ⟨j, rfl⟩ : ∃ j : Nat, at_ = (j : Int) := ⟨at_.toNat, by omega⟩
      have hj2 : j < 2 := by omega
      obtain ⟨z, y, h2z, hzy⟩ := V45.orient h2 hj2
      clear h2
      have I : I45 i pc L po pl z y := by
        rcases hzy with ⟨_, rfl, rfl⟩ | ⟨_, rfl, rfl⟩
        · exact I0
        · exact I0.swap
      clear hzy I0 z0 z1
      refine name_by ?_
      dsimp only [G45, List.set]
      refine ⟨_, rfl, b, 7, rfl, h2z.bag, by decide, by decide, fun H3 way mv3 hB3 w0 w1 => ?_⟩
      have h3 : Hw K L [] (V45 CB CI CL b ll lh lt lw po pl j z y) H3 := h2z.mv mv3 hB3
      clear h2z mv3 hB3
      refine name_by ?_
      dsimp only
      have hPz : (tX CB CI CL z.x).P H3 := h3.gget (f := tX CB CI CL) (Y := [z.x, y.x]) (j := 0) 1 rfl rfl
      have hPy : (tX CB CI CL y.x).P H3 := h3.gget (f := tX CB CI CL) (Y := [z.x, y.x]) (j := 1) 1 rfl rfl
      refine if_by (J := fun σ1 H3 => ∃ (L : List (Addr × List L2.V)) (po : List PT) (pl : List (Addr × List Int)) (z y : Sd5) (pc : Nat) (y10 : Option L2.V), σ1 = G45 a b ll lh lt lw [some (.int (pc : Int)), some (.int (0 + (i : Int))), some (.int (j : Int)), some (.int way), y10, y11] ∧ Hw K L [] (V45 CB CI CL b ll lh lt lw po pl j z y) H3 ∧ I45 (i + 1) pc L po pl z y) ?_ (fun rest => ?_)
      · clear h3 hPz hPy I
        rintro σ1 H4 ⟨L, po, pl, z, y, pc, y10, rfl, h4, I⟩
        obtain ⟨z0, z1, h5, hzy⟩ := V45.back hj2 h4
        have I0 : I45 (i + 1) pc L po pl z0 z1 := by
          rcases hzy with ⟨_, rfl, rfl⟩ | ⟨_, rfl, rfl⟩
          · exact I
          · exact I.swap
        clear hzy I h4 z y
        refine ⟨2, rfl, by decide, by decide, ?_⟩
        refine for_range (lo := 0) (n := 2) (fun u σ H' => ∃ y11, σ = G45 a b ll lh lt lw [some (.int (pc : Int)), some (.int (0 + (i : Int))), some (.int (j : Int)), some (.int way), y10, y11] ∧ Hw K L [] (V45 CB CI CL b ll lh lt lw po pl 0 z0 z1) H') ⟨_, rfl, h5⟩ ?_ ?_
        · clear h5
          rintro u σ H5 hu ⟨y11, rfl, h5⟩
          have hu2 : u < 2 := hu
          obtain ⟨z, y, h6, hzy⟩ := V45.orient h5 hu2
          have I : I45 (i + 1) pc L po pl z y := by
            rcases hzy with ⟨_, rfl, rfl⟩ | ⟨_, rfl, rfl⟩
            · exact I0
            · exact I0.swap
          clear hzy
          dsimp only [G45, List.set]
          have e1u : (1 : Int) - (0 + (u : Int)) = ((1 - u : Nat) : Int) := by omega
          have hPz : (tX CB CI CL z.x).P H5 := h6.gget (f := tX CB CI CL) (Y := [z.x, y.x]) (j := 0) 1 rfl rfl
          have hsl := I.n.o1.hc.slen
          have hwn := I.n.o1.hc.win
          refine ⟨_, rfl, _, rfl, ll, _, _, _, rfl, rfl, SqL.of (h6.at 4 rfl), (by rw [Int.zero_add]; exact atI_nat (sw_j hu2)), z.x.A.r, z.x.A.dx, _, rfl, lx_ins hPz, rfl, z.x.A, z.x.S, rfl, hPz, I.n.s1.ok.tsent I.n.kp h6.tf, by omega, fun H6 p ms hms s6 np ep => ⟨p, _, rfl, .inl (SqL.of ep), _, _, rfl, rfl, _, rfl, ite2 (fun e => ?_) (fun _ => ?_)⟩⟩
          · have e := of_decide_eq_true e
            rw [List.length_map, List.length_map, hms.perm.length_eq, List.length_map] at e
            omega
          · have h7 := h6.newH s6 np ep
            have h5 := h5.same s6
            clear h6 hPz hms np ep s6
            have htl : z.t.2.length ≤ 3 := by
              have g := congrArg List.length I.n.o1.t
              rw [List.length_map, List.length_take] at g
              have := I.n.s1.rl
              omega
            refine ⟨_, rfl, _, rfl, _, _, rfl, rfl, lt, _, _, _, rfl, rfl, SqL.of (h7.at 7 rfl), (by rw [e1u]; exact atI_nat (sw_o hu2)), _, rfl, _, rfl, lh, _, _, _, rfl, rfl, SqL.of (h7.at 6 rfl), (by rw [Int.zero_add]; exact atI_nat (sw_j hu2)), ?_⟩
            dsimp only [tNoPart]
            refine ⟨_, rfl, _, rfl, _, _, rfl, rfl, lt, _, _, _, rfl, rfl, SqL.of (h7.at 7 rfl), (by rw [e1u]; exact atI_nat (sw_o hu2)), z.t.1, _, rfl, .inl (SqL.of (h7.at 11 rfl)), _, rfl, z.h.1, _, rfl, SqL.of (h7.at 9 rfl), fun qa nqa => ?_⟩
            have ecut : cutV (refsR z.h.2) none (some (((refsR z.t.2).length : Nat) : Int)) = refsR (z.h.2.take z.t.2.length) := by
              rw [cut_to_n, List.length_map]
              exact List.map_take.symm
            rw [ecut]
            have h8 := h7.newHU (o := .lst (refsR (z.h.2.take z.t.2.length))) nqa
            have h5 := h5.same (same_upd (o := .lst (refsR (z.h.2.take z.t.2.length))) nqa)
            generalize upd H6 qa (.lst (refsR (z.h.2.take z.t.2.length))) = H7 at h8 h5 ⊢
            have ed : (z.h.2.take z.t.2.length).map (fun r => r.2) = z.t.2.map fun r => r.2 := by
              rw [List.map_take, I.n.o1.h, I.n.o1.t]
              have g := congrArg List.length I.n.o1.t
              rw [List.length_map, List.length_take] at g
              have hj := I.n.o1.hc.pos.jl
              rw [g, Nat.min_eq_left hj]
            have d1 : Dp K H7 (.ref z.t.1) (dLL (z.t.2.map fun r => r.2)) := dp_rs (h8.at 12 rfl) (fun r hr => rs_at (i := 5) h8 rfl r (I.n.s1.tp r hr))
            have d2 : Dp K H7 (.ref qa) (dLL (z.t.2.map fun r => r.2)) := by
              rw [← ed]
              exact dp_rs (h8.at 0 rfl) (fun r hr => rs_at (i := 5) h8 rfl r (I.n.s1.hp r (List.mem_of_mem_take hr)))
            refine ⟨_, _, d1, d2, shaped_LL _, shaped_LL _, _, rfl, ite2 (fun e => ?_) (fun _ => ?_)⟩
            · rw [SeqAt.eqv_refl _ (SeqAt.canLay_of_shaped (shaped_LL _))] at e
              simp at e
            unfold tNext
            dsimp only
            exact ⟨_, rfl, h5⟩
        · rintro σ H6 ⟨y11, rfl, h6⟩
          exact ⟨L, po, pl, z0, z1, pc, _, _, _, _, _, rfl, h6, I0⟩
      · refine ifP (decide (way = 0) && decide (z.h.2.length < 3)) (fun Qb qb => ?_) (fun e0 => ?_) (fun e0 => ?_)
        · refine ⟨_, rfl, rfl, _, rfl, ite2 (fun e => ?_) (fun e => ?_)⟩
          · have e : way = 0 := V.int.inj (of_decide_eq_true e)
            refine ⟨_, rfl, _, rfl, lh, _, _, _, rfl, rfl, SqL.of (h3.at 5 rfl), atI_nat (sw_j hj2), z.h.1, _, rfl, .inl (SqL.of (h3.at 8 rfl)), _, _, rfl, rfl, _, rfl, ?_⟩
            have e3 : decide ((((refsR z.h.2).length : Nat) : Int) < 3) = decide (z.h.2.length < 3) := by
              congr 1
              rw [List.length_map]
              exact propext ⟨fun h => by omega, fun h => by omega⟩
            rw [e3]
            rw [decide_eq_true e] at qb
            exact qb
          · have e : ¬ way = 0 := fun z => e (by rw [z]; rfl)
            rw [decide_eq_false e] at qb
            exact qb
        · rw [Bool.and_eq_true] at e0
          obtain ⟨e0, e3⟩ := e0
          have e3 : z.h.2.length < 3 := of_decide_eq_true e3
          refine ⟨_, rfl, _, rfl, lh, _, _, _, rfl, rfl, SqL.of (h3.at 5 rfl), atI_nat (sw_j hj2), .inl ⟨rfl, _, SqL.of (h3.at 8 rfl)⟩, _, rfl, b, 30, rfl, h3.bag, by decide, by decide, fun H4 ra row mv4 hB4 nra era hrow hrl => ?_⟩
          have h4 := h3.newM mv4 hB4 nra era
          clear h3 mv4 hB4 nra era hPz hPy
          refine ⟨z.h.1, _, _, rfl, rfl, h4.at 9 rfl, ?_, ?_⟩
          · rw [List.length_map]
            exact sz4l (by omega)
          have h5 := h4.put (ys := refsR z.h.2 ++ [.ref ra]) 9 rfl
          generalize upd H4 z.h.1 (.lst (refsR z.h.2 ++ [.ref ra])) = H5 at h5 ⊢
          have h6 := Hw.gadd (f := fR) (Y := pl) (z := (ra, row)) (h5.sel [1, 4, 0, 2, 3, 5, 6, 7, 8, 9, 10, 11, 12, 13, 14] (by decide))
          have h7 : Hw K L [] ([tB b, tG ([z.x, y.x].map (tX CB CI CL)), tG (po.map fN), tG ((pl ++ [(ra, row)]).map fR)] ++ [tL ll (sw j (.ref z.x.A.r) (.ref y.x.A.r)), tL lh (sw j (.ref z.h.1) (.ref y.h.1)), tL lt (sw j (.ref y.t.1) (.ref z.t.1)), tL lw (sw j (.ref z.w.1) (.ref y.w.1)), tL z.h.1 (refsR z.h.2 ++ [.ref ra]), fL y.h, fL z.t, fL y.t, fL z.w, fL y.w]) H5 := h6.sel [1, 2, 3, 0, 4, 5, 6, 7, 8, 9, 10, 11, 12, 13] (by decide)
          clear h4 h5 h6
          have hra : H5 ra = some (.lst (row.map V.int)) := by
            have g : (fR (ra, row)).P H5 := h7.gget (f := fR) (Y := pl ++ [(ra, row)]) (y := (ra, row)) (j := pl.length) 3 rfl (by simp)
            exact g.1
          have hPz : (tX CB CI CL z.x).P H5 := h7.gget (f := tX CB CI CL) (Y := [z.x, y.x]) (j := 0) 1 rfl rfl
          refine ⟨_, rfl, _, rfl, ll, _, _, _, rfl, rfl, SqL.of (h7.at 4 rfl), atI_nat (sw_j hj2), z.x.A.r, z.x.A.dx, _, rfl, lx_ins hPz, rfl, _, rfl, _, rfl, lh, _, _, _, rfl, rfl, SqL.of (h7.at 5 rfl), atI_nat (sw_j hj2), _, rfl, z.h.1, _, _, _, rfl, rfl, SqL.of (h7.at 8 rfl), at_last (n := z.h.2.length) (v := .ref ra) (by simp) (by simp), ra, _, rfl, .inl (SqL.of hra), fun hd nhd => ?_⟩
          have h8 : Hw K L [] (tB b :: tG ([z.x, y.x].map (tX CB CI CL)) :: tG (po.map fN) :: tG ((pl ++ [(ra, row)]).map fR) :: [tL ll (sw j (.ref z.x.A.r) (.ref y.x.A.r)), tL lh (sw j (.ref z.h.1) (.ref y.h.1)), tL lt (sw j (.ref y.t.1) (.ref z.t.1)), tL lw (sw j (.ref z.w.1) (.ref y.w.1)), tL z.h.1 (refsR z.h.2 ++ [.ref ra]), fL y.h, fL z.t, fL y.t, fL z.w, fL y.w, tL hd (row.map V.int)]) (upd H5 hd (.lst (row.map V.int))) := (h7.newHU (o := .lst (row.map V.int)) nhd).sel [1, 2, 3, 4, 5, 6, 7, 8, 9, 10, 11, 12, 13, 14, 0] (by decide)
          generalize upd H5 hd (.lst (row.map V.int)) = H6 at h8 ⊢
          clear h7 hra hPz nhd
          have hrl3 : z.D.rws.length < 3 := by
            rw [← I.n.o1.h, List.length_map]
            exact e3
          have hqn := I.n.o1.hc.qlen
          have hqq := I.n.s1.ql
          have hrl30 : row.length ≤ 30 := by omega
          dsimp only [tNil, List.append_nil]
          refine hc_hand (X := [z.x, y.x]) (j := 0) (x := z.x) h8 rfl (I.n.s1.ok.mono (fun _ h => h) (fun _ h => h) (fun r hr => List.mem_append_left _ hr)) I.n.kp I.n.o1.hc (by omega) (SqL.of (h8.at 14 rfl)) hrow (by omega) (fun H7 x' L' po' nq er hnq hcn keep ok' kp' hL hp h9 => ?_)
          have hra : H7 ra = some (.lst (row.map V.int)) := by
            have g : (fR (ra, row)).P H7 := h9.gget (f := fR) (Y := pl ++ [(ra, row)]) (y := (ra, row)) (j := pl.length) 3 rfl (by simp)
            exact g.1
          refine ⟨_, rfl, _, _, rfl, rfl, _, rfl, _, rfl, lh, _, _, _, rfl, rfl, SqL.of (h9.at 5 rfl), atI_nat (sw_j hj2), _, rfl, z.h.1, _, _, _, rfl, rfl, SqL.of (h9.at 8 rfl), at_last (n := z.h.2.length) (v := .ref ra) (by simp) (by simp), ra, _, rfl, .inl (SqL.of hra), ?_⟩
          rw [List.length_map]
          refine ⟨_, _, rfl, rfl, ⟨by omega, by decide⟩, _, _, rfl, rfl, ?_⟩
          have h10 : Hw K L' [] (V45 CB CI CL b ll lh lt lw po' (pl ++ [(ra, row)]) j ⟨x', { z.D with rws := z.D.rws ++ [row], qs := z.D.qs ++ nq }, z.E, (z.h.1, z.h.2 ++ [(ra, row)]), z.t, z.w, z.k⟩ y) H7 := by
            have g := h9.sel [0, 1, 2, 3, 4, 5, 6, 7, 8, 9, 10, 11, 12, 13] (by decide)
            have e : refsR (z.h.2 ++ [(ra, row)]) = refsR z.h.2 ++ [.ref ra] := List.map_append ..
            show Hw K L' [] [tB b, tG ([x', y.x].map (tX CB CI CL)), tG (po'.map fN), tG ((pl ++ [(ra, row)]).map fR), tL ll (sw j (.ref x'.A.r) (.ref y.x.A.r)), tL lh (sw j (.ref z.h.1) (.ref y.h.1)), tL lt (sw j (.ref y.t.1) (.ref z.t.1)), tL lw (sw j (.ref z.w.1) (.ref y.w.1)), tL z.h.1 (refsR (z.h.2 ++ [(ra, row)])), fL y.h, fL z.t, fL y.t, fL z.w, fL y.w] H7
            rw [e, er]
            exact g
          have hjl := I.n.o1.hc.pos.jl
          have hnf := pcN_few (ws := wsOf z.x.S.P) (r := row)
          have hp1 := I.p1
          have hp2 := I.p2
          have mpl : ∀ r ∈ pl, r ∈ pl ++ [(ra, row)] := fun r hr => List.mem_append_left _ hr
          refine rest _ _ ⟨L', po', pl ++ [(ra, row)], _, y, pc + 1 + row.length / 4, y10, ?_, h10, ⟨⟨⟨hcn, ?_, ?_, I.n.o1.w.more⟩, ⟨keep _ _ _ _ I.n.o2.hc, I.n.o2.h, I.n.o2.t, I.n.o2.w⟩, ⟨ok', fun r hr => ?_, fun r hr => mpl r (I.n.s1.tp r hr), fun r hr => mpl r (I.n.s1.wp r hr), Nat.le_succ_of_le I.n.s1.wl, ?_, ?_⟩, I.n.s2.mono hL hp mpl (Nat.le_succ _), kp'⟩, I.kz, I.ky, ?_, ?_⟩⟩
          · have e : ((pc : Int) + 1 + (row.length : Int) / 4) = ((pc + 1 + row.length / 4 : Nat) : Int) := by omega
            dsimp only [List.set]
            rw [e]
          · show (z.h.2 ++ [(ra, row)]).map (fun r => r.2) = z.D.rws ++ [row]
            rw [List.map_append, I.n.o1.h]
            rfl
          · show z.t.2.map (fun r => r.2) = (z.D.rws ++ [row]).take z.D.j
            rw [List.take_append_of_le_length hjl]
            exact I.n.o1.t
          · rcases List.mem_append.mp hr with z1 | z1
            · exact mpl r (I.n.s1.hp r z1)
            · exact List.mem_append_right _ z1
          · show (z.D.rws ++ [row]).length ≤ 3
            rw [List.length_append]
            exact hrl3
          · show (z.D.qs ++ nq).length ≤ 8 * (z.D.rws ++ [row]).length
            rw [List.length_append, List.length_append, hnq]
            show _ ≤ 8 * (z.D.rws.length + 1)
            omega
          · show 2 + (z.D.qs ++ nq).length + y.D.qs.length ≤ pc + 1 + row.length / 4
            rw [List.length_append, hnq]
            omega
          · show pc + 1 + row.length / 4 ≤ 2 + 8 * ((z.D.rws ++ [row]).length + y.D.rws.length)
            rw [List.length_append]
            show _ ≤ 2 + 8 * (z.D.rws.length + 1 + y.D.rws.length)
            omega
        · refine ⟨_, rfl, _, _, rfl, rfl, _, rfl, ite2 (fun e => ?_) (fun e => ?_)⟩
          · refine ⟨_, rfl, _, rfl, ll, _, _, _, rfl, rfl, SqL.of (h3.at 4 rfl), atI_nat (sw_j hj2), z.x.A.r, z.x.A.dx, _, rfl, lx_ins hPz, rfl, ?_⟩
            dsimp only [tNil, List.append_nil]
            refine hc_frame (X := [z.x, y.x]) (j := 0) (x := z.x) h3 rfl I.n.s1.ok I.n.kp I.n.o1.hc I.n.o2.hc (fun H4 v x' o snt' Ne er ov hc1 hc2 fr ok' h4 => ?_)
            clear h3 hPz hPy
            refine name_by ?_
            rcases fr.ne with ⟨rfl, eN, _⟩ | ⟨ns, e, rfl, eN, hpay⟩
            · obtain rfl : v = .non := ov
              refine ⟨_, rfl, rfl, _, rfl, iteF ?_⟩
              rw [eN, List.append_nil] at hc1 hc2
              have h5 : Hw K L [] (V45 CB CI CL b ll lh lt lw po pl j ⟨x', { z.D with snt := snt' }, z.E, z.h, z.t, z.w, z.k⟩ y) H4 := by
                show Hw K L [] [tB b, tG ([x', y.x].map (tX CB CI CL)), tG (po.map fN), tG (pl.map fR), tL ll (sw j (.ref x'.A.r) (.ref y.x.A.r)), tL lh (sw j (.ref z.h.1) (.ref y.h.1)), tL lt (sw j (.ref y.t.1) (.ref z.t.1)), tL lw (sw j (.ref z.w.1) (.ref y.w.1)), fL z.h, fL y.h, fL z.t, fL y.t, fL z.w, fL y.w] H4
                rw [er]
                exact h4.sel [0, 1, 2, 3, 5, 6, 7, 8, 9, 10, 11, 12, 13, 14] (by decide)
              unfold tNext
              dsimp only
              exact rest _ _ ⟨L, po, pl, _, y, pc, _, rfl, h5, ⟨⟨⟨hc1, I.n.o1.h, I.n.o1.t, I.n.o1.w⟩, ⟨hc2, I.n.o2.h, I.n.o2.t, I.n.o2.w⟩, ⟨ok', I.n.s1.hp, I.n.s1.tp, I.n.s1.wp, Nat.le_succ_of_le I.n.s1.wl, I.n.s1.rl, I.n.s1.ql⟩, I.n.s2.mono (fun _ h => h) (fun _ h => h) (fun _ h => h) (Nat.le_succ _), I.n.kp⟩, I.kz, I.ky, I.p1, I.p2⟩⟩
            · obtain ⟨p, rfl⟩ := ov
              refine ⟨_, rfl, rfl, _, rfl, iteT ?_⟩
              refine ⟨_, rfl, _, rfl, lw, _, _, _, rfl, rfl, SqL.of (h4.at 8 rfl), atI_nat (sw_j hj2), .inl ⟨rfl, _, SqL.of (h4.at 13 rfl)⟩, _, rfl, z.w.1, _, _, rfl, rfl, h4.at 13 rfl, ?_, ?_⟩
              · rw [List.length_map]
                have := I.n.s1.wl
                exact sz4l (by omega)
              have h5 := (h4.put (ys := refsR z.w.2 ++ [.ref p]) 13 rfl).sel [4, 3, 0, 1, 2, 5, 6, 7, 8, 9, 10, 11, 12, 13, 14] (by decide)
              generalize upd H4 z.w.1 (.lst (refsR z.w.2 ++ [.ref p])) = H5 at h5 ⊢
              clear h4
              have h6 := Hw.gadd (f := fR) (Y := pl) (z := (p, ns)) (Hw.ungrp (As := [fR (p, ns)]) h5)
              have hw0 : Fpay z.D.qs z.E (z.w.2.map fun r => r.2) := by
                have := I.n.o1.w
                rw [I.kz] at this
                exact this
              rw [eN] at hc1 hc2
              have h7 : Hw K L [] (V45 CB CI CL b ll lh lt lw po (pl ++ [(p, ns)]) j ⟨x', { z.D with snt := snt' }, z.E ++ [e], z.h, z.t, (z.w.1, z.w.2 ++ [(p, ns)]), z.k⟩ y) H5 := by
                show Hw K L [] [tB b, tG ([x', y.x].map (tX CB CI CL)), tG (po.map fN), tG ((pl ++ [(p, ns)]).map fR), tL ll (sw j (.ref x'.A.r) (.ref y.x.A.r)), tL lh (sw j (.ref z.h.1) (.ref y.h.1)), tL lt (sw j (.ref y.t.1) (.ref z.t.1)), tL lw (sw j (.ref z.w.1) (.ref y.w.1)), fL z.h, fL y.h, fL z.t, fL y.t, tL z.w.1 (refsR (z.w.2 ++ [(p, ns)])), fL y.w] H5
                rw [er, show refsR (z.w.2 ++ [(p, ns)]) = refsR z.w.2 ++ [.ref p] from List.map_append ..]
                exact h6.sel [1, 2, 3, 0, 4, 5, 6, 7, 8, 9, 10, 11, 12, 13] (by decide)
              clear h5 h6
              have mpl : ∀ r ∈ pl, r ∈ pl ++ [(p, ns)] := fun r hr => List.mem_append_left _ hr
              refine rest _ _ ⟨L, po, pl ++ [(p, ns)], _, y, pc, _, rfl, h7, ⟨⟨⟨hc1, I.n.o1.h, I.n.o1.t, ?_⟩, ⟨hc2, I.n.o2.h, I.n.o2.t, I.n.o2.w⟩, ⟨ok'.mono (fun _ h => h) (fun _ h => h) mpl, fun r hr => mpl r (I.n.s1.hp r hr), fun r hr => mpl r (I.n.s1.tp r hr), fun r hr => ?_, ?_, I.n.s1.rl, I.n.s1.ql⟩, I.n.s2.mono (fun _ h => h) (fun _ h => h) mpl (Nat.le_succ _), I.n.kp⟩, I.kz, I.ky, I.p1, I.p2⟩⟩
              · show Fpay z.D.qs (z.E ++ [e]) (((z.w.2 ++ [(p, ns)]).drop z.k).map fun r => r.2)
                rw [I.kz]
                show Fpay z.D.qs (z.E ++ [e]) ((z.w.2 ++ [(p, ns)]).map fun r => r.2)
                rw [List.map_append]
                exact hw0.snoc hpay
              · rcases List.mem_append.mp hr with z1 | z1
                · exact mpl r (I.n.s1.wp r z1)
                · exact List.mem_append_right _ z1
              · show (z.w.2 ++ [(p, ns)]).length ≤ i + 1
                rw [List.length_append]
                exact Nat.succ_le_succ I.n.s1.wl
          · have hw0 : Fpay z.D.qs z.E (z.w.2.map fun r => r.2) := by
              have := I.n.o1.w
              rw [I.kz] at this
              exact this
            refine ⟨_, rfl, _, rfl, lw, _, _, _, rfl, rfl, SqL.of (h3.at 7 rfl), atI_nat (sw_j hj2), Nat.zero_le _, fun pe npe => ?_⟩
            have h4 := (h3.newHU (o := .lst []) npe)
            generalize upd H3 pe (.lst []) = H4 at h4 ⊢
            have dw : Dp K H4 (.ref z.w.1) (dLL (z.w.2.map fun r => r.2)) := dp_rs (h4.at 13 rfl) (fun r hr => rs_at (i := 4) h4 rfl r (I.n.s1.wp r hr))
            refine ⟨_, _, dw, dp_ints (ns := []) (SqL.of (h4.at 0 rfl)), shaped_LL _, shaped_ints _, _, rfl, ite2 (fun e7 => ?_) (fun e7 => ?_)⟩
            · obtain ⟨r0, rest_, hwr⟩ : ∃ r0 rest_, z.w.2 = r0 :: rest_ := by
                cases hwr : z.w.2 with
                | nil =>
                  rw [hwr] at e7
                  have e8 : PyData.eqv (dI []) (dI []) = true := SeqAt.eqv_refl _ (SeqAt.canLay_of_shaped (shaped_ints []))
                  have e7 : (!PyData.eqv (dI []) (dI [])) = true := e7
                  rw [e8] at e7
                  cases e7
                | cons r0 rest_ => exact ⟨r0, rest_, rfl⟩
              clear e7 dw
              rw [hwr] at hw0
              obtain ⟨e, E', eE⟩ : ∃ e E', z.E = e :: E' := by
                cases eE : z.E with
                | nil => rw [eE] at hw0; cases hw0
                | cons e E' => exact ⟨e, E', rfl⟩
              rw [eE] at hw0
              obtain ⟨hpay, hw0⟩ := hw0
              have hc1 := I.n.o1.hc
              have hc2 := I.n.o2.hc
              rw [eE] at hc1 hc2
              have ewt : fL z.w = tL z.w.1 (.ref r0.1 :: refsR rest_) := by
                show tL z.w.1 (refsR z.w.2) = _
                rw [hwr]
                rfl
              have h5 : Hw K L [] [tB b, tG ([z.x, y.x].map (tX CB CI CL)), tG (po.map fN), tG (pl.map fR), tL ll (sw j (.ref z.x.A.r) (.ref y.x.A.r)), tL lh (sw j (.ref z.h.1) (.ref y.h.1)), tL lt (sw j (.ref y.t.1) (.ref z.t.1)), tL lw (sw j (.ref z.w.1) (.ref y.w.1)), fL z.h, fL y.h, fL z.t, fL y.t, tL z.w.1 (.ref r0.1 :: refsR rest_), fL y.w] H4 := by
                rw [← ewt]
                exact h4.sel [1, 2, 3, 4, 5, 6, 7, 8, 9, 10, 11, 12, 13, 14] (by decide)
              clear h3 h4 hPz hPy npe
              refine ⟨_, rfl, _, rfl, lw, _, _, _, rfl, rfl, SqL.of (h5.at 7 rfl), atI_nat (sw_j hj2), .inl ⟨rfl, _, SqL.of (h5.at 12 rfl)⟩, z.w.1, _, 0, 0, .ref r0.1, rfl, rfl, h5.at 12 rfl, by decide, by decide, six0 _, rfl, ?_⟩
              have h6 : Hw K L [] [tB b, tG ([z.x, y.x].map (tX CB CI CL)), tG (po.map fN), tG (pl.map fR), tL ll (sw j (.ref z.x.A.r) (.ref y.x.A.r)), tL lh (sw j (.ref z.h.1) (.ref y.h.1)), tL lt (sw j (.ref y.t.1) (.ref z.t.1)), tL lw (sw j (.ref z.w.1) (.ref y.w.1)), fL z.h, fL y.h, fL z.t, fL y.t, tL z.w.1 (refsR rest_), fL y.w] (upd H4 z.w.1 (.lst ((V.ref r0.1 :: refsR rest_).eraseIdx 0))) := h5.put (ys := refsR rest_) 12 rfl
              refine name_by ?_
              dsimp only
              generalize upd H4 z.w.1 (.lst ((V.ref r0.1 :: refsR rest_).eraseIdx 0)) = H5 at h6 ⊢
              clear h5
              have hr0 : r0 ∈ pl := I.n.s1.wp r0 (by rw [hwr]; exact .head _)
              have wp' : ∀ r ∈ rest_, r ∈ pl := fun r hr => I.n.s1.wp r (by rw [hwr]; exact .tail _ hr)
              have wl' : rest_.length ≤ i + 1 := by
                have := I.n.s1.wl
                rw [hwr, List.length_cons] at this
                omega
              have hw1 : Fpay z.D.qs E' ((rest_.drop z.k).map fun r => r.2) := by
                rw [I.kz]
                exact hw0
              refine ⟨_, rfl, _, _, rfl, rfl, _, rfl, ite2 (fun e4 => ?_) (fun e4 => ?_)⟩
              · have hPy : (tX CB CI CL y.x).P H5 := h6.gget (f := tX CB CI CL) (Y := [z.x, y.x]) (j := 1) 1 rfl rfl
                have e1j : (1 : Int) - (j : Int) = ((1 - j : Nat) : Int) := by omega
                refine ⟨_, rfl, _, rfl, _, _, rfl, rfl, lt, _, _, _, rfl, rfl, SqL.of (h6.at 6 rfl), (by rw [e1j]; exact atI_nat (sw_o hj2)), _, rfl, _, rfl, _, _, rfl, rfl, ll, _, _, _, rfl, rfl, SqL.of (h6.at 4 rfl), (by rw [e1j]; exact atI_nat (sw_o hj2)), y.x.A.r, y.x.A.dx, _, rfl, lx_ins hPy, rfl, _, rfl, ?_⟩
                dsimp only [tNil, List.append_nil]
                refine hc_take (X := [z.x, y.x]) (j := 1) (x := y.x) h6 rfl I.n.s2.ok I.n.kp hc1 hc2 hpay (SqL.of (rs_at (i := 3) h6 rfl r0 hr0)) (fun H6 o x' rs L' pl' D' D2' er hd1 hd2 tk ok' hL hpl h7 => ?_)
                clear h6 hPy
                refine ⟨z.t.1, o, _, _, rfl, rfl, h7.at 12 rfl, h7.at 4 rfl, ?_, fun p np => ?_⟩
                · have l1 : z.t.2.length + rs.length ≤ 3 := by
                    have g := congrArg List.length tk.rows
                    rw [← I.n.o1.t, List.length_append, List.length_map, List.length_map, List.length_take] at g
                    have := I.n.s1.rl
                    omega
                  rw [List.length_map, List.length_map]
                  exact Nat.le_trans (show _ ≤ 10000 by omega) (by decide)
                have h8 : Hw K L' [] (tG (rs.map fR) :: tG (pl'.map fR) :: [tB b, tG ([z.x, x'].map (tX CB CI CL)), tG (po.map fN), tL ll (sw j (.ref z.x.A.r) (.ref y.x.A.r)), tL lh (sw j (.ref z.h.1) (.ref y.h.1)), tL lt (sw j (.ref y.t.1) (.ref z.t.1)), tL lw (sw j (.ref z.w.1) (.ref y.w.1)), fL z.h, fL y.h, tL p (refsR z.t.2 ++ refsR rs), fL y.t, tL z.w.1 (refsR rest_), fL y.w]) (upd H6 p (.lst (refsR z.t.2 ++ refsR rs))) := (h7.newHU (o := .lst (refsR z.t.2 ++ refsR rs)) np).sel [6, 4, 1, 2, 3, 7, 8, 9, 10, 11, 12, 0, 14, 15, 16] (by decide)
                have h9 := Hw.gapp (Hw.ungrp (As := rs.map fR) h8)
                generalize upd H6 p (.lst (refsR z.t.2 ++ refsR rs)) = H7 at h9 ⊢
                clear h7 h8 np
                refine ⟨_, rfl, _, rfl, _, _, rfl, rfl, lt, _, _, 1 - j, rfl, rfl, h9.at 6 rfl, (by rw [e1j, sw_len]; exact ixN_nat (by omega)), ?_⟩
                rw [sw_seto hj2]
                have h10 : Hw K L' [] (V45 CB CI CL b ll lh lt lw po (pl' ++ rs) j ⟨z.x, D', E', z.h, (p, z.t.2 ++ rs), (z.w.1, rest_), z.k⟩ ⟨x', D2', y.E, y.h, y.t, y.w, y.k⟩) (upd H7 lt (.lst (sw j (.ref y.t.1) (.ref p)))) := by
                  have g := (h9.put (ys := sw j (.ref y.t.1) (.ref p)) 6 rfl).sel [1, 2, 3, 0, 4, 5, 6, 7, 8, 9, 10, 11, 12, 13] (by decide)
                  show Hw K L' [] [tB b, tG ([z.x, x'].map (tX CB CI CL)), tG (po.map fN), tG ((pl' ++ rs).map fR), tL ll (sw j (.ref z.x.A.r) (.ref x'.A.r)), tL lh (sw j (.ref z.h.1) (.ref y.h.1)), tL lt (sw j (.ref y.t.1) (.ref p)), tL lw (sw j (.ref z.w.1) (.ref y.w.1)), fL z.h, fL y.h, tL p (refsR (z.t.2 ++ rs)), fL y.t, tL z.w.1 (refsR rest_), fL y.w] _
                  rw [er, show refsR (z.t.2 ++ rs) = refsR z.t.2 ++ refsR rs from List.map_append ..]
                  exact g
                generalize upd H7 lt (.lst (sw j (.ref y.t.1) (.ref p))) = H8 at h10 ⊢
                clear h9
                obtain rfl := tk.d2
                have mpl : ∀ r ∈ pl, r ∈ pl' ++ rs := fun r hr => List.mem_append_left _ (hpl r hr)
                refine rest _ _ ⟨L', po, pl' ++ rs, ⟨z.x, D', E', z.h, (p, z.t.2 ++ rs), (z.w.1, rest_), z.k⟩, ⟨x', { y.D with bse := e.a }, y.E, y.h, y.t, y.w, y.k⟩, pc, _, rfl, h10, ⟨⟨⟨hd1, ?_, ?_, ?_⟩, ⟨hd2, I.n.o2.h, I.n.o2.t, I.n.o2.w⟩, ⟨I.n.s1.ok.mono hL (fun _ h => h) mpl, fun r hr => mpl r (I.n.s1.hp r hr), fun r hr => ?_, fun r hr => mpl r (wp' r hr), wl', ?_, ?_⟩, ⟨ok'.mono (fun _ h => h) (fun _ h => h) (fun r hr => List.mem_append_left _ hr), fun r hr => mpl r (I.n.s2.hp r hr), fun r hr => mpl r (I.n.s2.tp r hr), fun r hr => mpl r (I.n.s2.wp r hr), Nat.le_succ_of_le I.n.s2.wl, I.n.s2.rl, I.n.s2.ql⟩, fun p hp => hL _ (I.n.kp p hp)⟩, I.kz, I.ky, ?_, ?_⟩⟩
                · rw [tk.rws]
                  exact I.n.o1.h
                · show (z.t.2 ++ rs).map (fun r => r.2) = D'.rws.take D'.j
                  rw [tk.rws, ← tk.rows, List.map_append, I.n.o1.t]
                · rw [tk.qs]
                  exact hw1
                · rcases List.mem_append.mp hr with z1 | z1
                  · exact mpl r (I.n.s1.tp r z1)
                  · exact List.mem_append_right _ z1
                · rw [tk.rws]
                  exact I.n.s1.rl
                · rw [tk.rws, tk.qs]
                  exact I.n.s1.ql
                · rw [tk.qs]
                  exact I.p1
                · rw [tk.rws]
                  exact I.p2
              · have h7 : Hw K L [] (V45 CB CI CL b ll lh lt lw po pl j ⟨z.x, z.D, E', z.h, z.t, (z.w.1, rest_), z.k⟩ y) H5 := h6
                unfold tNext
                dsimp only
                exact rest _ _ ⟨L, po, pl, ⟨z.x, z.D, E', z.h, z.t, (z.w.1, rest_), z.k⟩, y, pc, _, rfl, h7, ⟨⟨⟨hc1.dropE, I.n.o1.h, I.n.o1.t, hw1⟩, ⟨hc2.dropF, I.n.o2.h, I.n.o2.t, I.n.o2.w⟩, ⟨I.n.s1.ok, I.n.s1.hp, I.n.s1.tp, wp', wl', I.n.s1.rl, I.n.s1.ql⟩, I.n.s2.mono (fun _ h => h) (fun _ h => h) (fun _ h => h) (Nat.le_succ _), I.n.kp⟩, I.kz, I.ky, I.p1, I.p2⟩⟩
            · unfold tNext
              dsimp only
              exact rest _ _ ⟨L, po, pl, z, y, pc, _, rfl, h4.sel [1, 2, 3, 4, 5, 6, 7, 8, 9, 10, 11, 12, 13, 14] (by decide), ⟨⟨I.n.o1, I.n.o2, I.n.s1.mono (fun _ h => h) (fun _ h => h) (fun _ h => h) (Nat.le_succ _), I.n.s2.mono (fun _ h => h) (fun _ h => h) (fun _ h => h) (Nat.le_succ _), I.n.kp⟩, I.kz, I.ky, I.p1, I.p2⟩⟩
    · rintro σ H1 ⟨L, po, pl, z, y, pc, y7, y8, y9, y10, y11, rfl, h1, I⟩
      have hr1 := I.n.s1.rl
      have hr2 := I.n.s2.rl
      have hp1 := I.p1
      have hp2 := I.p2
      have hpc : 2 ≤ pc ∧ pc ≤ 50 := ⟨by omega, by omega⟩
      clear hr1 hr2 hp1 hp2
      dsimp only [G45]
      refine ⟨_, rfl, _, _, rfl, rfl, .inl ⟨by decide, by decide⟩, _, rfl, by omega, by omega, ?_⟩
      refine for_range (lo := 0) (n := (10 * (pc : Int)).toNat) (fun t σ H' => JT45 K CB CI CL a b ll lh lt lw pc t σ H') ⟨L, po, pl, z, y, _, _, _, _, _, rfl, h1, ⟨⟨I.n.o1, I.n.o2, I.n.s1.mono (fun _ h => h) (fun _ h => h) (fun _ h => h) (by omega), I.n.s2.mono (fun _ h => h) (fun _ h => h) (fun _ h => h) (by omega), I.n.kp⟩, I.kz, I.ky, I.p1⟩, .inl rfl⟩ ?_ ?_
      · clear h1 I L po pl z y
        rintro t σ H1 ht ⟨L, po, pl, z0, z1, y7, y8, y9, y10, y11, rfl, h1, I, g⟩
        refine ⟨2, rfl, by decide, by decide, ?_⟩
        refine for_range (lo := 0) (n := 2) (fun u σ H' => JU45 K CB CI CL a b ll lh lt lw pc t u σ H') ⟨L, po, pl, z0, z1, _, _, _, _, rfl, h1, I, g⟩ ?_ ?_
        · clear h1 I g L po pl z0 z1
          rintro u σ H1 hu ⟨L, po, pl, z0, z1, y8, y9, y10, y11, rfl, h1, I0, g⟩
          have hu2 : u < 2 := hu
          obtain ⟨z, y, h2, hzy⟩ := V45.orient h1 hu2
          have I : K45 pc L po pl z y := by
            rcases hzy with ⟨_, rfl, rfl⟩ | ⟨_, rfl, rfl⟩
            · exact I0
            · exact I0.swap
          clear h1 I0
          dsimp only [G45, List.set]
          have e1u : (1 : Int) - (0 + (u : Int)) = ((1 - u : Nat) : Int) := by omega
          have at0 : ∀ a b : V, atI (sw u a b) (0 + (u : Int)) = some a := fun a b => by
            rw [Int.zero_add]
            exact atI_nat (sw_j hu2)
          have at1 : ∀ a b : V, atI (sw u a b) ((1 : Int) - (0 + (u : Int))) = some b := fun a b => by
            rw [e1u]
            exact atI_nat (sw_o hu2)
          have hPz : (tX CB CI CL z.x).P H1 := h2.gget (f := tX CB CI CL) (Y := [z.x, y.x]) (j := 0) 1 rfl rfl
          refine ⟨_, rfl, _, rfl, ll, _, _, _, rfl, rfl, SqL.of (h2.at 4 rfl), (at0 _ _), z.x.A.r, z.x.A.dx, _, rfl, lx_ins hPz, rfl, ?_⟩
          dsimp only [tNil, List.append_nil]
          refine hc_frame (X := [z.x, y.x]) (j := 0) (x := z.x) h2 rfl I.n.s1.ok I.n.kp I.n.o1.hc I.n.o2.hc (fun H4 v x' o snt' Ne er ov hc1 hc2 fr ok' h4 => ?_)
          clear h2 hPz
          refine name_by ?_
          refine if_by (J := fun σ1 H5 => ∃ (pl' : List (Addr × List Int)) (w' : LL5), σ1 = G45 a b ll lh lt lw [some (.int (pc : Int)), some (.int (0 + (t : Int))), some (.int (0 + (u : Int))), y9, some v, y11] ∧ Hw K L [] (V45 CB CI CL b ll lh lt lw po pl' u ⟨x', { z.D with snt := snt' }, z.E ++ Ne, z.h, z.t, w', 0⟩ y) H5 ∧ N5 L po pl' 61 ⟨x', { z.D with snt := snt' }, z.E ++ Ne, z.h, z.t, w', 0⟩ y) ?_ (fun rest => ?_)
          · clear h4 ok' hc1 hc2
            rintro σ1 H5 ⟨pl, w', rfl, h5, N⟩
            obtain ⟨zf, ezf⟩ : ∃ zf : Sd5, zf = ⟨x', { z.D with snt := snt' }, z.E ++ Ne, z.h, z.t, w', 0⟩ := ⟨_, rfl⟩
            rw [← ezf] at h5 N
            have eD : zf.D = { z.D with snt := snt' } := by rw [ezf]
            have eE : zf.E = z.E ++ Ne := by rw [ezf]
            have ek : zf.k = 0 := by rw [ezf]
            have fr2 : FrD z.x.S zf.x.S y.x.S z.D snt' Ne o := by rw [ezf]; exact fr
            have ell : zf.E.length = zf.w.2.length := by
              have := N.o1.w.len
              rwa [ek, List.length_map] at this
            clear ezf fr er
            dsimp only [G45]
            refine ⟨_, rfl, _, rfl, lw, _, _, _, rfl, rfl, SqL.of (h5.at 7 rfl), (at0 _ _), zf.w.1, rfl, ⟨_, SqL.of (h5.at 12 rfl)⟩, for_list (K := K) (a := zf.w.1) (xs := refsR zf.w.2) (fun k σ H' => ∃ (L : List (Addr × List L2.V)) (pl : List (Addr × List Int)) (zc yc : Sd5) (y10 y11 : Option L2.V), σ = G45 a b ll lh lt lw [some (.int (pc : Int)), some (.int (0 + (t : Int))), some (.int (0 + (u : Int))), y9, y10, y11] ∧ Hw K L [] (V45 CB CI CL b ll lh lt lw po pl u zc yc) H' ∧ N5 L po pl 61 zc yc ∧ DL5 zf y zc yc k) ⟨L, pl, zf, y, _, _, rfl, h5, N, DL5.start ek⟩ (fun k σ H' _ h => ?_) ?_ ?_⟩
            · obtain ⟨_, _, zc, yc, _, _, _, h, _, dl⟩ := h
              have g : H' zc.w.1 = some (.lst (refsR zc.w.2)) := h.at 12 rfl
              rw [dl.w] at g
              exact SqL.of g
            · clear h5 N
              rintro k v2 σ H6 hv ⟨L, pl, zc, yc, y10, y11, rfl, h6, N, dl⟩
              obtain ⟨r0, hr, rfl⟩ : ∃ r, zf.w.2[k]? = some r ∧ v2 = .ref r.1 := by
                rw [List.getElem?_map] at hv
                cases e : zf.w.2[k]? with
                | none => rw [e] at hv; cases hv
                | some r => rw [e] at hv; exact ⟨r, rfl, (Option.some.inj hv).symm⟩
              have edr : zf.w.2.drop k = r0 :: zf.w.2.drop (k + 1) := by
                rw [List.drop_eq_getElem_cons (List.getElem?_eq_some_iff.mp hr).1, (List.getElem?_eq_some_iff.mp hr).2]
              have hw0 := N.o1.w
              rw [dl.w, dl.kk, edr] at hw0
              obtain ⟨e, E', eE'⟩ : ∃ e E', zc.E = e :: E' := by
                cases eE' : zc.E with
                | nil => rw [eE'] at hw0; cases hw0
                | cons e E' => exact ⟨e, E', rfl⟩
              rw [eE'] at hw0
              obtain ⟨hpay, hw0⟩ := hw0
              have hc1 := N.o1.hc
              have hc2 := N.o2.hc
              have hfa := hc2.fa e (by rw [eE']; exact .head _)
              rw [eE'] at hc1 hc2
              have ezE : zf.E.drop k = e :: E' := by rw [← dl.E, eE']
              have ezE2 : E' = zf.E.drop (k + 1) := by
                rw [← List.drop_drop (i := 1) (j := k), ezE]
                rfl
              have ezk : zf.E[k]? = some e := by
                have : (zf.E.drop k)[0]? = some e := by rw [ezE]; rfl
                rwa [List.getElem?_drop] at this
              have hr0 : r0 ∈ pl := N.s1.wp r0 (by rw [dl.w]; exact List.mem_of_getElem? hr)
              have hPy : (tX CB CI CL yc.x).P H6 := h6.gget (f := tX CB CI CL) (Y := [zc.x, yc.x]) (j := 1) 1 rfl rfl
              dsimp only [G45, List.set]
              refine ⟨_, rfl, _, rfl, _, _, rfl, rfl, lt, _, _, _, rfl, rfl, SqL.of (h6.at 6 rfl), (at1 _ _), _, rfl, _, rfl, _, _, rfl, rfl, ll, _, _, _, rfl, rfl, SqL.of (h6.at 4 rfl), (at1 _ _), yc.x.A.r, yc.x.A.dx, _, rfl, lx_ins hPy, rfl, _, rfl, ?_⟩
              dsimp only [tNil, List.append_nil]
              refine hc_take (X := [zc.x, yc.x]) (j := 1) (x := yc.x) h6 rfl N.s2.ok N.kp hc1 hc2 hpay (SqL.of (rs_at (i := 3) h6 rfl r0 hr0)) (fun H7 o2 x2 rs L' pl' D' D2' er hd1 hd2 tk ok2 hL hpl h7 => ?_)
              clear h6 hPy
              refine ⟨zc.t.1, o2, _, _, rfl, rfl, h7.at 12 rfl, h7.at 4 rfl, ?_, fun p np => ?_⟩
              · have l1 : zc.t.2.length + rs.length ≤ 3 := by
                  have g := congrArg List.length tk.rows
                  rw [← N.o1.t, List.length_append, List.length_map, List.length_map, List.length_take] at g
                  have := N.s1.rl
                  omega
                rw [List.length_map, List.length_map]
                exact Nat.le_trans (show _ ≤ 10000 by omega) (by decide)
              have h8 : Hw K L' [] (tG (rs.map fR) :: tG (pl'.map fR) :: [tB b, tG ([zc.x, x2].map (tX CB CI CL)), tG (po.map fN), tL ll (sw u (.ref zc.x.A.r) (.ref yc.x.A.r)), tL lh (sw u (.ref zc.h.1) (.ref yc.h.1)), tL lt (sw u (.ref yc.t.1) (.ref zc.t.1)), tL lw (sw u (.ref zc.w.1) (.ref yc.w.1)), fL zc.h, fL yc.h, tL p (refsR zc.t.2 ++ refsR rs), fL yc.t, fL zc.w, fL yc.w]) (upd H7 p (.lst (refsR zc.t.2 ++ refsR rs))) := (h7.newHU (o := .lst (refsR zc.t.2 ++ refsR rs)) np).sel [6, 4, 1, 2, 3, 7, 8, 9, 10, 11, 12, 0, 14, 15, 16] (by decide)
              have h9 := Hw.gapp (Hw.ungrp (As := rs.map fR) h8)
              generalize upd H7 p (.lst (refsR zc.t.2 ++ refsR rs)) = H8 at h9 ⊢
              clear h7 h8 np
              refine ⟨_, rfl, _, rfl, _, _, rfl, rfl, lt, _, _, 1 - u, rfl, rfl, h9.at 6 rfl, (by rw [e1u, sw_len]; exact ixN_nat (by omega)), ?_⟩
              rw [sw_seto hu2]
              have h10 : Hw K L' [] (V45 CB CI CL b ll lh lt lw po (pl' ++ rs) u ⟨zc.x, D', E', zc.h, (p, zc.t.2 ++ rs), zc.w, k + 1⟩ ⟨x2, D2', yc.E, yc.h, yc.t, yc.w, yc.k⟩) (upd H8 lt (.lst (sw u (.ref yc.t.1) (.ref p)))) := by
                have g := (h9.put (ys := sw u (.ref yc.t.1) (.ref p)) 6 rfl).sel [1, 2, 3, 0, 4, 5, 6, 7, 8, 9, 10, 11, 12, 13] (by decide)
                show Hw K L' [] [tB b, tG ([zc.x, x2].map (tX CB CI CL)), tG (po.map fN), tG ((pl' ++ rs).map fR), tL ll (sw u (.ref zc.x.A.r) (.ref x2.A.r)), tL lh (sw u (.ref zc.h.1) (.ref yc.h.1)), tL lt (sw u (.ref yc.t.1) (.ref p)), tL lw (sw u (.ref zc.w.1) (.ref yc.w.1)), fL zc.h, fL yc.h, tL p (refsR (zc.t.2 ++ rs)), fL yc.t, fL zc.w, fL yc.w] _
                rw [er, show refsR (zc.t.2 ++ rs) = refsR zc.t.2 ++ refsR rs from List.map_append ..]
                exact g
              generalize upd H8 lt (.lst (sw u (.ref yc.t.1) (.ref p))) = H9 at h10 ⊢
              clear h9
              obtain rfl := tk.d2
              have mpl : ∀ r ∈ pl, r ∈ pl' ++ rs := fun r hr => List.mem_append_left _ (hpl r hr)
              have tkpo := tk.po
              rw [dl.x] at tkpo
              refine ⟨L', pl' ++ rs, ⟨zc.x, D', E', zc.h, (p, zc.t.2 ++ rs), zc.w, k + 1⟩, ⟨x2, { yc.D with bse := e.a }, yc.E, yc.h, yc.t, yc.w, yc.k⟩, _, _, rfl, h10, ⟨⟨hd1, ?_, ?_, ?_⟩, ⟨hd2, N.o2.h, N.o2.t, N.o2.w⟩, ⟨N.s1.ok.mono hL (fun _ h => h) mpl, fun r hr => mpl r (N.s1.hp r hr), fun r hr => ?_, fun r hr => mpl r (N.s1.wp r hr), N.s1.wl, ?_, ?_⟩, ⟨ok2.mono (fun _ h => h) (fun _ h => h) (fun r hr => List.mem_append_left _ hr), fun r hr => mpl r (N.s2.hp r hr), fun r hr => mpl r (N.s2.tp r hr), fun r hr => mpl r (N.s2.wp r hr), N.s2.wl, N.s2.rl, N.s2.ql⟩, fun p hp => hL _ (N.kp p hp)⟩, ⟨dl.x, dl.w, dl.h, rfl, tk.rws.trans dl.rws, tk.qs.trans dl.qs, tk.bse.trans dl.bse, tk.snt.trans dl.snt, ezE2, dl.yE, dl.yk, dl.yw, dl.yh, dl.yrws, dl.yqs, dl.ysnt, Nat.le_trans dl.yb hfa.1, Nat.le_trans dl.yp tk.pl, Nat.le_trans tkpo dl.ypo, fun e2 h2 _ => ?_, fun e2 h2 _ h3 => ?_⟩⟩
              · rw [tk.rws]
                exact N.o1.h
              · show (zc.t.2 ++ rs).map (fun r => r.2) = D'.rws.take D'.j
                rw [tk.rws, ← tk.rows, List.map_append, N.o1.t]
              · show Fpay D'.qs E' ((zc.w.2.drop (k + 1)).map fun r => r.2)
                rw [tk.qs, dl.w]
                exact hw0
              · rcases List.mem_append.mp hr with z1 | z1
                · exact mpl r (N.s1.tp r z1)
                · exact List.mem_append_right _ z1
              · rw [tk.rws]
                exact N.s1.rl
              · rw [tk.rws, tk.qs]
                exact N.s1.ql
              · rw [Nat.add_sub_cancel, ezk] at h2
                cases h2
                exact ⟨rfl, tk.ow2⟩
              · show y.x.S.place < x2.S.place
                have hyp := dl.yp
                have hpl2 := tk.pl
                rcases Nat.eq_zero_or_pos k with z1 | z1
                · subst z1
                  rw [ezk] at h2
                  cases h2
                  rcases Nat.lt_or_ge y.x.S.place yc.x.S.place with c | c
                  · omega
                  · have ep : yc.x.S.place = y.x.S.place := by omega
                    have := tk.pl2 (by rw [h3, ep])
                    omega
                · have := dl.fi e2 h2 z1 h3
                  omega
            · clear h5 N
              rintro σ H6 ⟨L, pl, zc, yc, y10, y11, rfl, h6, N, dl⟩
              rw [List.length_map, ← ell] at dl
              have ezE : zc.E = [] := by
                rw [dl.E]
                exact List.drop_length ..
              refine ⟨Nat.zero_le _, fun p np => ?_⟩
              have h7 := h6.newHU (o := .lst []) np
              generalize upd H6 p (.lst []) = H7 at h7 ⊢
              clear h6 np
              dsimp only [G45]
              refine ⟨_, rfl, _, rfl, lw, _, _, u, rfl, rfl, h7.at 8 rfl, (by rw [Int.zero_add, sw_len]; exact ixN_nat hu2), ?_⟩
              rw [sw_set hu2]
              have h8 : Hw K L [] (V45 CB CI CL b ll lh lt lw po pl u ⟨zc.x, zc.D, [], zc.h, zc.t, (p, []), 0⟩ yc) (upd H7 lw (.lst (sw u (.ref p) (.ref yc.w.1)))) := (h7.put (ys := sw u (.ref p) (.ref yc.w.1)) 8 rfl).sel [1, 2, 3, 4, 5, 6, 7, 8, 9, 10, 11, 12, 0, 14] (by decide)
              generalize upd H7 lw (.lst (sw u (.ref p) (.ref yc.w.1))) = H8 at h8 ⊢
              clear h7
              have hc1 := N.o1.hc
              have hc2 := N.o2.hc
              rw [ezE] at hc1 hc2
              have on1 : Ok5 ⟨zc.x, zc.D, [], zc.h, zc.t, (p, []), 0⟩ yc := ⟨hc1, N.o1.h, N.o1.t, trivial⟩
              have on2 : Ok5 yc ⟨zc.x, zc.D, [], zc.h, zc.t, (p, []), 0⟩ := ⟨hc2, N.o2.h, N.o2.t, N.o2.w⟩
              have hs := DL5.hs I.n.o1 fr2 eD eE dl N.o1 (zn := ⟨zc.x, zc.D, [], zc.h, zc.t, (p, []), 0⟩) rfl rfl rfl
              have Kn : K45 pc L po pl ⟨zc.x, zc.D, [], zc.h, zc.t, (p, []), 0⟩ yc := by
                refine ⟨⟨on1, on2, ⟨N.s1.ok, N.s1.hp, N.s1.tp, (fun r hr => absurd hr List.not_mem_nil), Nat.zero_le _, N.s1.rl, N.s1.ql⟩, ⟨N.s2.ok, N.s2.hp, N.s2.tp, N.s2.wp, by rw [dl.yw]; exact I.n.s2.wl, N.s2.rl, N.s2.ql⟩, N.kp⟩, rfl, by rw [dl.yk]; exact I.ky, ?_⟩
                have q1 := hs.qz
                have q2 := hs.qy
                have := I.p1
                rw [q1, q2]
                exact this
              obtain ⟨a0, a1, h9, hback⟩ := V45.back hu2 h8
              refine ⟨L, po, pl, a0, a1, _, _, _, _, rfl, h9, ?_, ?_⟩
              · rcases hback with ⟨_, rfl, rfl⟩ | ⟨_, rfl, rfl⟩
                · exact Kn
                · exact Kn.swap
              · unfold GrU at g ⊢
                rcases hback with ⟨u0, eb1, eb2⟩ | ⟨u1, eb1, eb2⟩
                · subst u0
                  rcases hzy with ⟨_, e1, e2⟩ | ⟨z1, _⟩
                  · rw [if_pos rfl] at g
                    rw [if_neg (by decide), if_pos rfl]
                    rw [e1, e2] at hs
                    rw [← eb1, ← eb2]
                    exact g.step hs (by rw [← e1, ← e2]; exact I.n.o1) on2
                  · cases z1
                · subst u1
                  rcases hzy with ⟨z1, _⟩ | ⟨_, e1, e2⟩
                  · cases z1
                  · rw [if_neg (by decide), if_pos rfl] at g
                    rw [if_neg (by decide), if_neg (by decide)]
                    rw [e1, e2] at hs
                    rw [← eb1, ← eb2]
                    exact g.step hs (by rw [← e1, ← e2]; exact I.n.o1) on2 on1
          · have hw0 : Fpay z.D.qs z.E (z.w.2.map fun r => r.2) := by
              have := I.n.o1.w
              rw [I.kz] at this
              exact this
            rcases fr.ne with ⟨rfl, eN, _⟩ | ⟨ns, e, rfl, eN, hpay⟩
            · obtain rfl : v = .non := ov
              refine ⟨_, rfl, rfl, _, rfl, iteF ?_⟩
              have h5 : Hw K L [] (V45 CB CI CL b ll lh lt lw po pl u ⟨x', { z.D with snt := snt' }, z.E ++ Ne, z.h, z.t, z.w, 0⟩ y) H4 := by
                show Hw K L [] [tB b, tG ([x', y.x].map (tX CB CI CL)), tG (po.map fN), tG (pl.map fR), tL ll (sw u (.ref x'.A.r) (.ref y.x.A.r)), tL lh (sw u (.ref z.h.1) (.ref y.h.1)), tL lt (sw u (.ref y.t.1) (.ref z.t.1)), tL lw (sw u (.ref z.w.1) (.ref y.w.1)), fL z.h, fL y.h, fL z.t, fL y.t, fL z.w, fL y.w] H4
                rw [er]
                exact h4.sel [0, 1, 2, 3, 5, 6, 7, 8, 9, 10, 11, 12, 13, 14] (by decide)
              unfold tNext
              dsimp only
              refine rest _ _ ⟨pl, z.w, rfl, h5, ⟨⟨hc1, I.n.o1.h, I.n.o1.t, ?_⟩, ⟨hc2, I.n.o2.h, I.n.o2.t, I.n.o2.w⟩, ⟨ok', I.n.s1.hp, I.n.s1.tp, I.n.s1.wp, Nat.le_succ_of_le I.n.s1.wl, I.n.s1.rl, I.n.s1.ql⟩, I.n.s2.mono (fun _ h => h) (fun _ h => h) (fun _ h => h) (Nat.le_succ _), I.n.kp⟩⟩
              rw [eN, List.append_nil]
              exact hw0
            · obtain ⟨p, rfl⟩ := ov
              refine ⟨_, rfl, rfl, _, rfl, iteT ?_⟩
              refine ⟨_, rfl, _, rfl, lw, _, _, _, rfl, rfl, SqL.of (h4.at 8 rfl), (at0 _ _), .inl ⟨rfl, _, SqL.of (h4.at 13 rfl)⟩, _, rfl, z.w.1, _, _, rfl, rfl, h4.at 13 rfl, ?_, ?_⟩
              · rw [List.length_map]
                have := I.n.s1.wl
                exact sz4l (by omega)
              have h5 := (h4.put (ys := refsR z.w.2 ++ [.ref p]) 13 rfl).sel [4, 3, 0, 1, 2, 5, 6, 7, 8, 9, 10, 11, 12, 13, 14] (by decide)
              generalize upd H4 z.w.1 (.lst (refsR z.w.2 ++ [.ref p])) = H5 at h5 ⊢
              clear h4
              have h6 := Hw.gadd (f := fR) (Y := pl) (z := (p, ns)) (Hw.ungrp (As := [fR (p, ns)]) h5)
              have h7 : Hw K L [] (V45 CB CI CL b ll lh lt lw po (pl ++ [(p, ns)]) u ⟨x', { z.D with snt := snt' }, z.E ++ Ne, z.h, z.t, (z.w.1, z.w.2 ++ [(p, ns)]), 0⟩ y) H5 := by
                show Hw K L [] [tB b, tG ([x', y.x].map (tX CB CI CL)), tG (po.map fN), tG ((pl ++ [(p, ns)]).map fR), tL ll (sw u (.ref x'.A.r) (.ref y.x.A.r)), tL lh (sw u (.ref z.h.1) (.ref y.h.1)), tL lt (sw u (.ref y.t.1) (.ref z.t.1)), tL lw (sw u (.ref z.w.1) (.ref y.w.1)), fL z.h, fL y.h, fL z.t, fL y.t, tL z.w.1 (refsR (z.w.2 ++ [(p, ns)])), fL y.w] H5
                rw [er, show refsR (z.w.2 ++ [(p, ns)]) = refsR z.w.2 ++ [.ref p] from List.map_append ..]
                exact h6.sel [1, 2, 3, 0, 4, 5, 6, 7, 8, 9, 10, 11, 12, 13] (by decide)
              clear h5 h6
              have mpl : ∀ r ∈ pl, r ∈ pl ++ [(p, ns)] := fun r hr => List.mem_append_left _ hr
              refine rest _ _ ⟨pl ++ [(p, ns)], (z.w.1, z.w.2 ++ [(p, ns)]), rfl, h7, ⟨⟨hc1, I.n.o1.h, I.n.o1.t, ?_⟩, ⟨hc2, I.n.o2.h, I.n.o2.t, I.n.o2.w⟩, ⟨ok'.mono (fun _ h => h) (fun _ h => h) mpl, fun r hr => mpl r (I.n.s1.hp r hr), fun r hr => mpl r (I.n.s1.tp r hr), fun r hr => ?_, ?_, I.n.s1.rl, I.n.s1.ql⟩, I.n.s2.mono (fun _ h => h) (fun _ h => h) mpl (Nat.le_succ _), I.n.kp⟩⟩
              · show Fpay z.D.qs (z.E ++ Ne) ((z.w.2 ++ [(p, ns)]).map fun r => r.2)
                rw [eN, List.map_append]
                exact hw0.snoc hpay
              · rcases List.mem_append.mp hr with z1 | z1
                · exact mpl r (I.n.s1.wp r z1)
                · exact List.mem_append_right _ z1
              · show (z.w.2 ++ [(p, ns)]).length ≤ 61
                rw [List.length_append]
                exact Nat.succ_le_succ I.n.s1.wl
        · rintro σ H2 ⟨L, po, pl, z0, z1, y8, y9, y10, y11, rfl, h2, I, g⟩
          have g2 : Gr2 t z0 z1 := by
            unfold GrU at g
            rw [if_neg (by decide), if_neg (by decide)] at g
            exact g
          clear g
          have i0 := I.n.o1.hc.idle
          have i1 := I.n.o2.hc.idle
          have hP0 : (tX CB CI CL z0.x).P H2 := h2.gget (f := tX CB CI CL) (Y := [z0.x, z1.x]) (j := 0) 1 rfl rfl
          have hP1 : (tX CB CI CL z1.x).P H2 := h2.gget (f := tX CB CI CL) (Y := [z0.x, z1.x]) (j := 1) 1 rfl rfl
          dsimp only [G45]
          refine ifP (decide (z0.x.S.queue.length = 0 ∧ z0.x.S.sent.length = 0) && decide (z1.x.S.queue.length = 0 ∧ z1.x.S.sent.length = 0)) (fun Qb qb => ?_) (fun e0 => ?_) (fun e0 => ?_)
          · refine ⟨_, rfl, ll, _, _, _, rfl, rfl, SqL.of (h2.at 4 rfl), atI_nat (j := 0) rfl, z0.x.A.r, z0.x.A.dx, _, rfl, lx_ins hP0, rfl, z0.x.A, z0.x.S, rfl, hP0, _, rfl, ite2 (fun e => ?_) (fun e => ?_)⟩
            · have e : decide (z0.x.S.queue.length = 0 ∧ z0.x.S.sent.length = 0) = true := e
              rw [e, Bool.true_and] at qb
              exact ⟨_, rfl, ll, _, _, _, rfl, rfl, SqL.of (h2.at 4 rfl), atI_nat (j := 1) rfl, z1.x.A.r, z1.x.A.dx, _, rfl, lx_ins hP1, rfl, z1.x.A, z1.x.S, rfl, hP1, _, rfl, qb⟩
            · have e : decide (z0.x.S.queue.length = 0 ∧ z0.x.S.sent.length = 0) = false := by
                cases h : decide (z0.x.S.queue.length = 0 ∧ z0.x.S.sent.length = 0) with
                | false => rfl
                | true => exact absurd h e
              rw [e] at qb
              exact qb
          · rw [Bool.and_eq_true] at e0
            have f0 := i0.mp (of_decide_eq_true e0.1)
            have f1 := i1.mp (of_decide_eq_true e0.2)
            have a0 := I.n.o1.hc.all f0
            have a1 := I.n.o2.hc.all f1
            refine ⟨_, rfl, _, rfl, lh, _, _, _, rfl, rfl, SqL.of (h2.at 5 rfl), atI_nat (j := 1) rfl, _, rfl, lh, _, _, _, rfl, rfl, SqL.of (h2.at 5 rfl), atI_nat (j := 0) rfl, (by show 2 ≤ sizeLine; decide), fun p np => ?_⟩
            have h3 := h2.newHU (o := .lst [.ref z1.h.1, .ref z0.h.1]) np
            generalize upd H2 p (.lst [.ref z1.h.1, .ref z0.h.1]) = H3 at h3 ⊢
            have dt : ∀ (i : Nat) (u : LL5) (rws : List (List Int)), ([tL p [.ref z1.h.1, .ref z0.h.1]] ++ V45 CB CI CL b ll lh lt lw po pl 0 z0 z1)[i]? = some (fL u) → (∀ r ∈ u.2, r ∈ pl) → u.2.map (fun r => r.2) = rws → Dp K H3 (.ref u.1) (dLL rws) := fun i u rws hi hm he => by
              rw [← he]
              exact dp_rs (h3.at i hi) (fun r hr => rs_at (i := 4) h3 rfl r (hm r hr))
            have d1 : Dp K H3 (.ref lt) (.list [dLL z1.D.rws, dLL z0.D.rws]) := .lst (SqL.of (h3.at 7 rfl)) (.cons (dt 12 z1.t _ rfl I.n.s2.tp (by rw [I.n.o2.t, a1])) (.cons (dt 11 z0.t _ rfl I.n.s1.tp (by rw [I.n.o1.t, a0])) .nil))
            have d2 : Dp K H3 (.ref p) (.list [dLL z1.D.rws, dLL z0.D.rws]) := .lst (SqL.of (h3.at 0 rfl)) (.cons (dt 10 z1.h _ rfl I.n.s2.hp I.n.o2.h) (.cons (dt 9 z0.h _ rfl I.n.s1.hp I.n.o1.h) .nil))
            have rl : ∀ (S R : LkS) (D : DI) (E F : List CE), HC S R D E F → ∀ u ∈ D.rws, u.length ≤ 1000 := fun S R D E F h u hu => by
              have := (h.w.byt u hu).2
              omega
            refine ⟨.ref lt, .ref p, _, rfl, d1, d2, ?_, shaped_2LL _ _, fun H5 s5 => q _⟩
            refine .inr (.inr (.inr (.inr ⟨_, .inl rfl, (by show 2 ≤ 100000; decide), fun e he => ?_⟩)))
            rcases List.mem_cons.mp he with rfl | he
            · exact dn_LL (by have := I.n.s2.rl; omega) (rl _ _ _ _ _ I.n.o2.hc) n
            · rw [List.mem_singleton.mp he]
              exact dn_LL (by have := I.n.s1.rl; omega) (rl _ _ _ _ _ I.n.o1.hc) n
          · unfold tNext
            dsimp only
            obtain ⟨e1, e2, c0, c1, m⟩ := g2
            have nf : ¬ (fin5 z0 ∧ fin5 z1) := fun z => by
              rw [decide_eq_true (i0.mpr z.1), decide_eq_true (i1.mpr z.2)] at e0
              cases e0
            exact ⟨L, po, pl, z0, z1, _, _, _, _, _, rfl, h2, I, .inr ⟨e1, e2, c0, c1.imp id .inr, m nf, nf⟩⟩
      · rintro σ H2 ⟨L, po, pl, z0, z1, y7, y8, y9, y10, y11, rfl, h2, I, g⟩
        exfalso
        rcases g with g | ⟨_, _, _, _, m, _⟩
        · omega
        · have := I.p1
          omega
end
/-! ### the end -/
theorem all_mk {l : PySem.W.OpenLaw} {w : World} {K : PySem.W.Frag} {h : Heap} {mg : Str → Option Value} {fa f0 f1 f2 f3 f4 f5 f6 f7 f8 f9 f10 f11 f12 f13 f14 f15 f16 f17 f18 f19 f20 f21 f22 f23 f24 f25 f26 f27 f28 f29 f30 f31 f32 f33 f34 f35 f36 : Addr} (X : K.In h) (G : h.Ns mainGlobals mg) (hfa : mg "law" = some (.ref fa))
    {cBook : Addr}
    {cIntake : Addr}
    {cLink : Addr}
    {oc0 : Value} {od0 an0 : Option Addr} {sl0 : Array (Option Value)} {kV0 dc0 pm0 cd0 ct0 : Value}
    {oc1 : Value} {od1 an1 : Option Addr} {sl1 : Array (Option Value)} {kV1 dc1 pm1 cd1 ct1 : Value}
    {oc2 : Value} {od2 an2 : Option Addr} {sl2 : Array (Option Value)} {kV2 dc2 pm2 cd2 ct2 : Value}
    {oc3 : Value} {od3 an3 : Option Addr} {sl3 : Array (Option Value)} {kV3 dc3 pm3 cd3 ct3 : Value}
    {oc4 : Value} {od4 an4 : Option Addr} {sl4 : Array (Option Value)} {kV4 dc4 pm4 cd4 ct4 : Value}
    {oc5 : Value} {od5 an5 : Option Addr} {sl5 : Array (Option Value)} {kV5 dc5 pm5 cd5 ct5 : Value}
    {oc6 : Value} {od6 an6 : Option Addr} {sl6 : Array (Option Value)} {kV6 dc6 pm6 cd6 ct6 : Value}
    {oc7 : Value} {od7 an7 : Option Addr} {sl7 : Array (Option Value)} {kV7 dc7 pm7 cd7 ct7 : Value}
    {oc8 : Value} {od8 an8 : Option Addr} {sl8 : Array (Option Value)} {kV8 dc8 pm8 cd8 ct8 : Value}
    {oc9 : Value} {od9 an9 : Option Addr} {sl9 : Array (Option Value)} {kV9 dc9 pm9 cd9 ct9 : Value}
    {oc10 : Value} {od10 an10 : Option Addr} {sl10 : Array (Option Value)} {kV10 dc10 pm10 cd10 ct10 : Value}
    {oc11 : Value} {od11 an11 : Option Addr} {sl11 : Array (Option Value)} {kV11 dc11 pm11 cd11 ct11 : Value}
    {oc12 : Value} {od12 an12 : Option Addr} {sl12 : Array (Option Value)} {kV12 dc12 pm12 cd12 ct12 : Value}
    {oc13 : Value} {od13 an13 : Option Addr} {sl13 : Array (Option Value)} {kV13 dc13 pm13 cd13 ct13 : Value}
    {oc14 : Value} {od14 an14 : Option Addr} {sl14 : Array (Option Value)} {kV14 dc14 pm14 cd14 ct14 : Value}
    {oc15 : Value} {od15 an15 : Option Addr} {sl15 : Array (Option Value)} {kV15 dc15 pm15 cd15 ct15 : Value}
    {oc16 : Value} {od16 an16 : Option Addr} {sl16 : Array (Option Value)} {kV16 dc16 pm16 cd16 ct16 : Value}
    {oc17 : Value} {od17 an17 : Option Addr} {sl17 : Array (Option Value)} {kV17 dc17 pm17 cd17 ct17 : Value}
    {oc18 : Value} {od18 an18 : Option Addr} {sl18 : Array (Option Value)} {kV18 dc18 pm18 cd18 ct18 : Value}
    {oc19 : Value} {od19 an19 : Option Addr} {sl19 : Array (Option Value)} {kV19 dc19 pm19 cd19 ct19 : Value}
    {oc20 : Value} {od20 an20 : Option Addr} {sl20 : Array (Option Value)} {kV20 dc20 pm20 cd20 ct20 : Value}
    {oc21 : Value} {od21 an21 : Option Addr} {sl21 : Array (Option Value)} {kV21 dc21 pm21 cd21 ct21 : Value}
    {oc22 : Value} {od22 an22 : Option Addr} {sl22 : Array (Option Value)} {kV22 dc22 pm22 cd22 ct22 : Value}
    {oc23 : Value} {od23 an23 : Option Addr} {sl23 : Array (Option Value)} {kV23 dc23 pm23 cd23 ct23 : Value}
    {oc24 : Value} {od24 an24 : Option Addr} {sl24 : Array (Option Value)} {kV24 dc24 pm24 cd24 ct24 : Value}
    {oc25 : Value} {od25 an25 : Option Addr} {sl25 : Array (Option Value)} {kV25 dc25 pm25 cd25 ct25 : Value}
    {oc26 : Value} {od26 an26 : Option Addr} {sl26 : Array (Option Value)} {kV26 dc26 pm26 cd26 ct26 : Value}
    {oc27 : Value} {od27 an27 : Option Addr} {sl27 : Array (Option Value)} {kV27 dc27 pm27 cd27 ct27 : Value}
    {oc28 : Value} {od28 an28 : Option Addr} {sl28 : Array (Option Value)} {kV28 dc28 pm28 cd28 ct28 : Value}
    {oc29 : Value} {od29 an29 : Option Addr} {sl29 : Array (Option Value)} {kV29 dc29 pm29 cd29 ct29 : Value}
    {oc30 : Value} {od30 an30 : Option Addr} {sl30 : Array (Option Value)} {kV30 dc30 pm30 cd30 ct30 : Value}
    {oc31 : Value} {od31 an31 : Option Addr} {sl31 : Array (Option Value)} {kV31 dc31 pm31 cd31 ct31 : Value}
    {oc32 : Value} {od32 an32 : Option Addr} {sl32 : Array (Option Value)} {kV32 dc32 pm32 cd32 ct32 : Value}
    {oc33 : Value} {od33 an33 : Option Addr} {sl33 : Array (Option Value)} {kV33 dc33 pm33 cd33 ct33 : Value}
    {oc34 : Value} {od34 an34 : Option Addr} {sl34 : Array (Option Value)} {kV34 dc34 pm34 cd34 ct34 : Value}
    {oc35 : Value} {od35 an35 : Option Addr} {sl35 : Array (Option Value)} {kV35 dc35 pm35 cd35 ct35 : Value}
    {oc36 : Value} {od36 an36 : Option Addr} {sl36 : Array (Option Value)} {kV36 dc36 pm36 cd36 ct36 : Value}
    {cLE fLE dLE : Addr} {ocLE : Value} {odLE anLE : Option Addr} {slLE : Array (Option Value)} {kVLE dcLE pmLE cdLE ctLE : Value} {oD : Option Addr} {mD : Nat} {slD : Array (Option Value)} {tLe1 tLe2 : Tok}
    {xBadBit : Addr}
    {xBadByte : Addr}
    {xBadCode : Addr}
    {xBadFrame : Addr}
    {xBadCount : Addr}
    {xTooLong : Addr}
    {xFull : Addr}
    {fIBadBit : Addr} {nmBadBit qBadBit : Str} {NBadBit : Addr} {bsBadBit bmBadBit : List Value} {snBadBit : List Str} {subBadBit : List Value} {abBadBit : Bool} {colBadBit : Option Bool} {ddBadBit : Option Addr} {kaBadBit kbBadBit kcBadBit kdBadBit keBadBit : Option Value}
    {ocBadBit : Value} {odBadBit anBadBit : Option Addr} {slBadBit : Array (Option Value)} {kVBadBit dcBadBit pmBadBit cdBadBit ctBadBit : Value}
    {fIBadByte : Addr} {nmBadByte qBadByte : Str} {NBadByte : Addr} {bsBadByte bmBadByte : List Value} {snBadByte : List Str} {subBadByte : List Value} {abBadByte : Bool} {colBadByte : Option Bool} {ddBadByte : Option Addr} {kaBadByte kbBadByte kcBadByte kdBadByte keBadByte : Option Value}
    {ocBadByte : Value} {odBadByte anBadByte : Option Addr} {slBadByte : Array (Option Value)} {kVBadByte dcBadByte pmBadByte cdBadByte ctBadByte : Value}
    {fIBadCode : Addr} {nmBadCode qBadCode : Str} {NBadCode : Addr} {bsBadCode bmBadCode : List Value} {snBadCode : List Str} {subBadCode : List Value} {abBadCode : Bool} {colBadCode : Option Bool} {ddBadCode : Option Addr} {kaBadCode kbBadCode kcBadCode kdBadCode keBadCode : Option Value}
    {ocBadCode : Value} {odBadCode anBadCode : Option Addr} {slBadCode : Array (Option Value)} {kVBadCode dcBadCode pmBadCode cdBadCode ctBadCode : Value}
    {fIBadFrame : Addr} {nmBadFrame qBadFrame : Str} {NBadFrame : Addr} {bsBadFrame bmBadFrame : List Value} {snBadFrame : List Str} {subBadFrame : List Value} {abBadFrame : Bool} {colBadFrame : Option Bool} {ddBadFrame : Option Addr} {kaBadFrame kbBadFrame kcBadFrame kdBadFrame keBadFrame : Option Value}
    {ocBadFrame : Value} {odBadFrame anBadFrame : Option Addr} {slBadFrame : Array (Option Value)} {kVBadFrame dcBadFrame pmBadFrame cdBadFrame ctBadFrame : Value}
    {fIBadCount : Addr} {nmBadCount qBadCount : Str} {NBadCount : Addr} {bsBadCount bmBadCount : List Value} {snBadCount : List Str} {subBadCount : List Value} {abBadCount : Bool} {colBadCount : Option Bool} {ddBadCount : Option Addr} {kaBadCount kbBadCount kcBadCount kdBadCount keBadCount : Option Value}
    {ocBadCount : Value} {odBadCount anBadCount : Option Addr} {slBadCount : Array (Option Value)} {kVBadCount dcBadCount pmBadCount cdBadCount ctBadCount : Value}
    {fITooLong : Addr} {nmTooLong qTooLong : Str} {NTooLong : Addr} {bsTooLong bmTooLong : List Value} {snTooLong : List Str} {subTooLong : List Value} {abTooLong : Bool} {colTooLong : Option Bool} {ddTooLong : Option Addr} {kaTooLong kbTooLong kcTooLong kdTooLong keTooLong : Option Value}
    {ocTooLong : Value} {odTooLong anTooLong : Option Addr} {slTooLong : Array (Option Value)} {kVTooLong dcTooLong pmTooLong cdTooLong ctTooLong : Value}
    {fIFull : Addr} {nmFull qFull : Str} {NFull : Addr} {bsFull bmFull : List Value} {snFull : List Str} {subFull : List Value} {abFull : Bool} {colFull : Option Bool} {ddFull : Option Addr} {kaFull kbFull kcFull kdFull keFull : Option Value}
    {ocFull : Value} {odFull anFull : Option Addr} {slFull : Array (Option Value)} {kVFull dcFull pmFull cdFull ctFull : Value}
    {t_BYTE_BITS : Tok}
    {t_GREATEST_BYTE : Tok}
    {t_MOST_BITS : Tok}
    {t_MOST_WORDS : Tok}
    {t_LONGEST_ROW : Tok}
    {t_BYTE_WORDS : Tok}
    {t_CODE_BITS : Tok}
    {t_PIECE : Tok}
    {t_WINDOW : Tok}
    {t_NUMBERS : Tok}
    {t_NUMBER_BITS : Tok}
    {t_HEAD_BITS : Tok}
    {t_MOST_PIECES : Tok}
    (r1Book : PySem.W.nsIn K mainGlobals "Book" = some (some (.ref cBook)))
    (r2Book : PySem.W.plainGet K cBook Str.empty = true)
    (r3Book : PySem.W.hasDictIn K cBook = true)
    (r4Book : PySem.W.plainOver K cBook = true)
    (r5Book : PySem.W.findIn K (.ref cBook) "__setattr__" = some (some (.builtin "object.__setattr__")))
    (r6Book : PySem.W.makesIn K cBook = true)
    (r7Book : PySem.W.keepIn K (.ref cBook) = true)
    (r_Book_words : PySem.W.findIn K (.ref cBook) "words" = some none)
    (ob_Book : PySem.W.findIn K (.ref cBook) "__bool__" = some none)
    (r1Intake : PySem.W.nsIn K mainGlobals "Intake" = some (some (.ref cIntake)))
    (r2Intake : PySem.W.plainGet K cIntake Str.empty = true)
    (r3Intake : PySem.W.hasDictIn K cIntake = true)
    (r4Intake : PySem.W.plainOver K cIntake = true)
    (r5Intake : PySem.W.findIn K (.ref cIntake) "__setattr__" = some (some (.builtin "object.__setattr__")))
    (r6Intake : PySem.W.makesIn K cIntake = true)
    (r7Intake : PySem.W.keepIn K (.ref cIntake) = true)
    (r_Intake_book : PySem.W.findIn K (.ref cIntake) "book" = some none)
    (r_Intake_place : PySem.W.findIn K (.ref cIntake) "place" = some none)
    (r_Intake_kept : PySem.W.findIn K (.ref cIntake) "kept" = some none)
    (r_Intake_begun : PySem.W.findIn K (.ref cIntake) "begun" = some none)
    (r1Link : PySem.W.nsIn K mainGlobals "Link" = some (some (.ref cLink)))
    (r2Link : PySem.W.plainGet K cLink Str.empty = true)
    (r3Link : PySem.W.hasDictIn K cLink = true)
    (r4Link : PySem.W.plainOver K cLink = true)
    (r5Link : PySem.W.findIn K (.ref cLink) "__setattr__" = some (some (.builtin "object.__setattr__")))
    (r6Link : PySem.W.makesIn K cLink = true)
    (r7Link : PySem.W.keepIn K (.ref cLink) = true)
    (r_Link_book : PySem.W.findIn K (.ref cLink) "book" = some none)
    (r_Link_intake : PySem.W.findIn K (.ref cLink) "intake" = some none)
    (r_Link_cut : PySem.W.findIn K (.ref cLink) "cut" = some none)
    (r_Link_queue : PySem.W.findIn K (.ref cLink) "queue" = some none)
    (r_Link_sent : PySem.W.findIn K (.ref cLink) "sent" = some none)
    (r_Link_owes : PySem.W.findIn K (.ref cLink) "owes" = some none)
    (a0 : PySem.W.nsIn K mainGlobals "check_bits" = some (some (.ref f0)))
    (l0 : K.lookup f0 = some ⟨oc0, od0, .func (PySem.W.fnOf "check_bits" "check_bits" (defArgs s_check_bits) (defBody s_check_bits) (defScope s_check_bits) .none kV0 dc0 pm0 an0 cd0 ct0), sl0⟩)
    (c0 : PySem.W.codeIn K cd0 "check_bits" = true)
    (k0 : PySem.W.keepIn K (.ref f0) = true)
    (a1 : PySem.W.nsIn K mainGlobals "check_bytes" = some (some (.ref f1)))
    (l1 : K.lookup f1 = some ⟨oc1, od1, .func (PySem.W.fnOf "check_bytes" "check_bytes" (defArgs s_check_bytes) (defBody s_check_bytes) (defScope s_check_bytes) .none kV1 dc1 pm1 an1 cd1 ct1), sl1⟩)
    (c1 : PySem.W.codeIn K cd1 "check_bytes" = true)
    (k1 : PySem.W.keepIn K (.ref f1) = true)
    (a2 : PySem.W.nsIn K mainGlobals "number_bits" = some (some (.ref f2)))
    (l2 : K.lookup f2 = some ⟨oc2, od2, .func (PySem.W.fnOf "number_bits" "number_bits" (defArgs s_number_bits) (defBody s_number_bits) (defScope s_number_bits) .none kV2 dc2 pm2 an2 cd2 ct2), sl2⟩)
    (c2 : PySem.W.codeIn K cd2 "number_bits" = true)
    (k2 : PySem.W.keepIn K (.ref f2) = true)
    (a3 : PySem.W.nsIn K mainGlobals "bits_number" = some (some (.ref f3)))
    (l3 : K.lookup f3 = some ⟨oc3, od3, .func (PySem.W.fnOf "bits_number" "bits_number" (defArgs s_bits_number) (defBody s_bits_number) (defScope s_bits_number) .none kV3 dc3 pm3 an3 cd3 ct3), sl3⟩)
    (c3 : PySem.W.codeIn K cd3 "bits_number" = true)
    (k3 : PySem.W.keepIn K (.ref f3) = true)
    (a4 : PySem.W.nsIn K mainGlobals "bits_of" = some (some (.ref f4)))
    (l4 : K.lookup f4 = some ⟨oc4, od4, .func (PySem.W.fnOf "bits_of" "bits_of" (defArgs s_bits_of) (defBody s_bits_of) (defScope s_bits_of) .none kV4 dc4 pm4 an4 cd4 ct4), sl4⟩)
    (c4 : PySem.W.codeIn K cd4 "bits_of" = true)
    (k4 : PySem.W.keepIn K (.ref f4) = true)
    (a5 : PySem.W.nsIn K mainGlobals "has_room" = some (some (.ref f5)))
    (l5 : K.lookup f5 = some ⟨oc5, od5, .func (PySem.W.fnOf "has_room" "has_room" (defArgs s_has_room) (defBody s_has_room) (defScope s_has_room) .none kV5 dc5 pm5 an5 cd5 ct5), sl5⟩)
    (c5 : PySem.W.codeIn K cd5 "has_room" = true)
    (k5 : PySem.W.keepIn K (.ref f5) = true)
    (a6 : PySem.W.nsIn K mainGlobals "words_at_beginning" = some (some (.ref f6)))
    (l6 : K.lookup f6 = some ⟨oc6, od6, .func (PySem.W.fnOf "words_at_beginning" "words_at_beginning" (defArgs s_words_at_beginning) (defBody s_words_at_beginning) (defScope s_words_at_beginning) .none kV6 dc6 pm6 an6 cd6 ct6), sl6⟩)
    (c6 : PySem.W.codeIn K cd6 "words_at_beginning" = true)
    (k6 : PySem.W.keepIn K (.ref f6) = true)
    (a7 : PySem.W.nsIn K mainGlobals "longest_code" = some (some (.ref f7)))
    (l7 : K.lookup f7 = some ⟨oc7, od7, .func (PySem.W.fnOf "longest_code" "longest_code" (defArgs s_longest_code) (defBody s_longest_code) (defScope s_longest_code) .none kV7 dc7 pm7 an7 cd7 ct7), sl7⟩)
    (c7 : PySem.W.codeIn K cd7 "longest_code" = true)
    (k7 : PySem.W.keepIn K (.ref f7) = true)
    (a8 : PySem.W.nsIn K mainGlobals "word_of" = some (some (.ref f8)))
    (l8 : K.lookup f8 = some ⟨oc8, od8, .func (PySem.W.fnOf "word_of" "word_of" (defArgs s_word_of) (defBody s_word_of) (defScope s_word_of) .none kV8 dc8 pm8 an8 cd8 ct8), sl8⟩)
    (c8 : PySem.W.codeIn K cd8 "word_of" = true)
    (k8 : PySem.W.keepIn K (.ref f8) = true)
    (a9 : PySem.W.nsIn K mainGlobals "learn" = some (some (.ref f9)))
    (l9 : K.lookup f9 = some ⟨oc9, od9, .func (PySem.W.fnOf "learn" "learn" (defArgs s_learn) (defBody s_learn) (defScope s_learn) .none kV9 dc9 pm9 an9 cd9 ct9), sl9⟩)
    (c9 : PySem.W.codeIn K cd9 "learn" = true)
    (k9 : PySem.W.keepIn K (.ref f9) = true)
    (a10 : PySem.W.nsIn K mainGlobals "numbers_behind_first" = some (some (.ref f10)))
    (l10 : K.lookup f10 = some ⟨oc10, od10, .func (PySem.W.fnOf "numbers_behind_first" "numbers_behind_first" (defArgs s_numbers_behind_first) (defBody s_numbers_behind_first) (defScope s_numbers_behind_first) .none kV10 dc10 pm10 an10 cd10 ct10), sl10⟩)
    (c10 : PySem.W.codeIn K cd10 "numbers_behind_first" = true)
    (k10 : PySem.W.keepIn K (.ref f10) = true)
    (a11 : PySem.W.findIn K (.ref cBook) "__init__" = some (some (.ref f11)))
    (i11 : PySem.W.isFn K (.ref f11) = true)
    (l11 : K.lookup f11 = some ⟨oc11, od11, .func (PySem.W.fnOf "__init__" "Book.__init__" (defArgs m_Book___init__) (defBody m_Book___init__) (defScope m_Book___init__) .none kV11 dc11 pm11 an11 cd11 ct11), sl11⟩)
    (c11 : PySem.W.codeIn K cd11 "Book.__init__" = true)
    (k11 : PySem.W.keepIn K (.ref f11) = true)
    (a12 : PySem.W.findIn K (.ref cBook) "shorten" = some (some (.ref f12)))
    (i12 : PySem.W.isFn K (.ref f12) = true)
    (l12 : K.lookup f12 = some ⟨oc12, od12, .func (PySem.W.fnOf "shorten" "Book.shorten" (defArgs m_Book_shorten) (defBody m_Book_shorten) (defScope m_Book_shorten) .none kV12 dc12 pm12 an12 cd12 ct12), sl12⟩)
    (c12 : PySem.W.codeIn K cd12 "Book.shorten" = true)
    (k12 : PySem.W.keepIn K (.ref f12) = true)
    (a13 : PySem.W.findIn K (.ref cBook) "lengthen" = some (some (.ref f13)))
    (i13 : PySem.W.isFn K (.ref f13) = true)
    (l13 : K.lookup f13 = some ⟨oc13, od13, .func (PySem.W.fnOf "lengthen" "Book.lengthen" (defArgs m_Book_lengthen) (defBody m_Book_lengthen) (defScope m_Book_lengthen) .none kV13 dc13 pm13 an13 cd13 ct13), sl13⟩)
    (c13 : PySem.W.codeIn K cd13 "Book.lengthen" = true)
    (k13 : PySem.W.keepIn K (.ref f13) = true)
    (a14 : PySem.W.findIn K (.ref cBook) "pack" = some (some (.ref f14)))
    (i14 : PySem.W.isFn K (.ref f14) = true)
    (l14 : K.lookup f14 = some ⟨oc14, od14, .func (PySem.W.fnOf "pack" "Book.pack" (defArgs m_Book_pack) (defBody m_Book_pack) (defScope m_Book_pack) .none kV14 dc14 pm14 an14 cd14 ct14), sl14⟩)
    (c14 : PySem.W.codeIn K cd14 "Book.pack" = true)
    (k14 : PySem.W.keepIn K (.ref f14) = true)
    (a15 : PySem.W.findIn K (.ref cBook) "unpack" = some (some (.ref f15)))
    (i15 : PySem.W.isFn K (.ref f15) = true)
    (l15 : K.lookup f15 = some ⟨oc15, od15, .func (PySem.W.fnOf "unpack" "Book.unpack" (defArgs m_Book_unpack) (defBody m_Book_unpack) (defScope m_Book_unpack) .none kV15 dc15 pm15 an15 cd15 ct15), sl15⟩)
    (c15 : PySem.W.codeIn K cd15 "Book.unpack" = true)
    (k15 : PySem.W.keepIn K (.ref f15) = true)
    (a16 : PySem.W.findIn K (.ref cBook) "twin" = some (some (.ref f16)))
    (i16 : PySem.W.isFn K (.ref f16) = true)
    (l16 : K.lookup f16 = some ⟨oc16, od16, .func (PySem.W.fnOf "twin" "Book.twin" (defArgs m_Book_twin) (defBody m_Book_twin) (defScope m_Book_twin) .none kV16 dc16 pm16 an16 cd16 ct16), sl16⟩)
    (c16 : PySem.W.codeIn K cd16 "Book.twin" = true)
    (k16 : PySem.W.keepIn K (.ref f16) = true)
    (a17 : PySem.W.nsIn K mainGlobals "head_of" = some (some (.ref f17)))
    (l17 : K.lookup f17 = some ⟨oc17, od17, .func (PySem.W.fnOf "head_of" "head_of" (defArgs s_head_of) (defBody s_head_of) (defScope s_head_of) .none kV17 dc17 pm17 an17 cd17 ct17), sl17⟩)
    (c17 : PySem.W.codeIn K cd17 "head_of" = true)
    (k17 : PySem.W.keepIn K (.ref f17) = true)
    (a18 : PySem.W.nsIn K mainGlobals "has_form" = some (some (.ref f18)))
    (l18 : K.lookup f18 = some ⟨oc18, od18, .func (PySem.W.fnOf "has_form" "has_form" (defArgs s_has_form) (defBody s_has_form) (defScope s_has_form) .none kV18 dc18 pm18 an18 cd18 ct18), sl18⟩)
    (c18 : PySem.W.codeIn K cd18 "has_form" = true)
    (k18 : PySem.W.keepIn K (.ref f18) = true)
    (a19 : PySem.W.nsIn K mainGlobals "parted" = some (some (.ref f19)))
    (l19 : K.lookup f19 = some ⟨oc19, od19, .func (PySem.W.fnOf "parted" "parted" (defArgs s_parted) (defBody s_parted) (defScope s_parted) .none kV19 dc19 pm19 an19 cd19 ct19), sl19⟩)
    (c19 : PySem.W.codeIn K cd19 "parted" = true)
    (k19 : PySem.W.keepIn K (.ref f19) = true)
    (a20 : PySem.W.findIn K (.ref cIntake) "__init__" = some (some (.ref f20)))
    (i20 : PySem.W.isFn K (.ref f20) = true)
    (l20 : K.lookup f20 = some ⟨oc20, od20, .func (PySem.W.fnOf "__init__" "Intake.__init__" (defArgs m_Intake___init__) (defBody m_Intake___init__) (defScope m_Intake___init__) .none kV20 dc20 pm20 an20 cd20 ct20), sl20⟩)
    (c20 : PySem.W.codeIn K cd20 "Intake.__init__" = true)
    (k20 : PySem.W.keepIn K (.ref f20) = true)
    (a21 : PySem.W.findIn K (.ref cLink) "__init__" = some (some (.ref f21)))
    (i21 : PySem.W.isFn K (.ref f21) = true)
    (l21 : K.lookup f21 = some ⟨oc21, od21, .func (PySem.W.fnOf "__init__" "Link.__init__" (defArgs m_Link___init__) (defBody m_Link___init__) (defScope m_Link___init__) .none kV21 dc21 pm21 an21 cd21 ct21), sl21⟩)
    (c21 : PySem.W.codeIn K cd21 "Link.__init__" = true)
    (k21 : PySem.W.keepIn K (.ref f21) = true)
    (a22 : PySem.W.findIn K (.ref cLink) "awaited" = some (some (.ref f22)))
    (i22 : PySem.W.isFn K (.ref f22) = true)
    (l22 : K.lookup f22 = some ⟨oc22, od22, .func (PySem.W.fnOf "awaited" "Link.awaited" (defArgs m_Link_awaited) (defBody m_Link_awaited) (defScope m_Link_awaited) .none kV22 dc22 pm22 an22 cd22 ct22), sl22⟩)
    (c22 : PySem.W.codeIn K cd22 "Link.awaited" = true)
    (k22 : PySem.W.keepIn K (.ref f22) = true)
    (a23 : PySem.W.findIn K (.ref cLink) "idle" = some (some (.ref f23)))
    (i23 : PySem.W.isFn K (.ref f23) = true)
    (l23 : K.lookup f23 = some ⟨oc23, od23, .func (PySem.W.fnOf "idle" "Link.idle" (defArgs m_Link_idle) (defBody m_Link_idle) (defScope m_Link_idle) .none kV23 dc23 pm23 an23 cd23 ct23), sl23⟩)
    (c23 : PySem.W.codeIn K cd23 "Link.idle" = true)
    (k23 : PySem.W.keepIn K (.ref f23) = true)
    (a24 : PySem.W.findIn K (.ref cLink) "open_places" = some (some (.ref f24)))
    (i24 : PySem.W.isFn K (.ref f24) = true)
    (l24 : K.lookup f24 = some ⟨oc24, od24, .func (PySem.W.fnOf "open_places" "Link.open_places" (defArgs m_Link_open_places) (defBody m_Link_open_places) (defScope m_Link_open_places) .none kV24 dc24 pm24 an24 cd24 ct24), sl24⟩)
    (c24 : PySem.W.codeIn K cd24 "Link.open_places" = true)
    (k24 : PySem.W.keepIn K (.ref f24) = true)
    (a25 : PySem.W.findIn K (.ref cLink) "unanswered" = some (some (.ref f25)))
    (i25 : PySem.W.isFn K (.ref f25) = true)
    (l25 : K.lookup f25 = some ⟨oc25, od25, .func (PySem.W.fnOf "unanswered" "Link.unanswered" (defArgs m_Link_unanswered) (defBody m_Link_unanswered) (defScope m_Link_unanswered) .none kV25 dc25 pm25 an25 cd25 ct25), sl25⟩)
    (c25 : PySem.W.codeIn K cd25 "Link.unanswered" = true)
    (k25 : PySem.W.keepIn K (.ref f25) = true)
    (a26 : PySem.W.findIn K (.ref cLink) "end_answered" = some (some (.ref f26)))
    (i26 : PySem.W.isFn K (.ref f26) = true)
    (l26 : K.lookup f26 = some ⟨oc26, od26, .func (PySem.W.fnOf "end_answered" "Link.end_answered" (defArgs m_Link_end_answered) (defBody m_Link_end_answered) (defScope m_Link_end_answered) .none kV26 dc26 pm26 an26 cd26 ct26), sl26⟩)
    (c26 : PySem.W.codeIn K cd26 "Link.end_answered" = true)
    (k26 : PySem.W.keepIn K (.ref f26) = true)
    (a27 : PySem.W.findIn K (.ref cLink) "frame" = some (some (.ref f27)))
    (i27 : PySem.W.isFn K (.ref f27) = true)
    (l27 : K.lookup f27 = some ⟨oc27, od27, .func (PySem.W.fnOf "frame" "Link.frame" (defArgs m_Link_frame) (defBody m_Link_frame) (defScope m_Link_frame) .none kV27 dc27 pm27 an27 cd27 ct27), sl27⟩)
    (c27 : PySem.W.codeIn K cd27 "Link.frame" = true)
    (k27 : PySem.W.keepIn K (.ref f27) = true)
    (a28 : PySem.W.findIn K (.ref cLink) "hand" = some (some (.ref f28)))
    (i28 : PySem.W.isFn K (.ref f28) = true)
    (l28 : K.lookup f28 = some ⟨oc28, od28, .func (PySem.W.fnOf "hand" "Link.hand" (defArgs m_Link_hand) (defBody m_Link_hand) (defScope m_Link_hand) .none kV28 dc28 pm28 an28 cd28 ct28), sl28⟩)
    (c28 : PySem.W.codeIn K cd28 "Link.hand" = true)
    (k28 : PySem.W.keepIn K (.ref f28) = true)
    (a29 : PySem.W.findIn K (.ref cIntake) "twin" = some (some (.ref f29)))
    (i29 : PySem.W.isFn K (.ref f29) = true)
    (l29 : K.lookup f29 = some ⟨oc29, od29, .func (PySem.W.fnOf "twin" "Intake.twin" (defArgs m_Intake_twin) (defBody m_Intake_twin) (defScope m_Intake_twin) .none kV29 dc29 pm29 an29 cd29 ct29), sl29⟩)
    (c29 : PySem.W.codeIn K cd29 "Intake.twin" = true)
    (k29 : PySem.W.keepIn K (.ref f29) = true)
    (a30 : PySem.W.findIn K (.ref cIntake) "take_piece" = some (some (.ref f30)))
    (i30 : PySem.W.isFn K (.ref f30) = true)
    (l30 : K.lookup f30 = some ⟨oc30, od30, .func (PySem.W.fnOf "take_piece" "Intake.take_piece" (defArgs m_Intake_take_piece) (defBody m_Intake_take_piece) (defScope m_Intake_take_piece) .none kV30 dc30 pm30 an30 cd30 ct30), sl30⟩)
    (c30 : PySem.W.codeIn K cd30 "Intake.take_piece" = true)
    (k30 : PySem.W.keepIn K (.ref f30) = true)
    (a31 : PySem.W.findIn K (.ref cLink) "take" = some (some (.ref f31)))
    (i31 : PySem.W.isFn K (.ref f31) = true)
    (l31 : K.lookup f31 = some ⟨oc31, od31, .func (PySem.W.fnOf "take" "Link.take" (defArgs m_Link_take) (defBody m_Link_take) (defScope m_Link_take) .none kV31 dc31 pm31 an31 cd31 ct31), sl31⟩)
    (c31 : PySem.W.codeIn K cd31 "Link.take" = true)
    (k31 : PySem.W.keepIn K (.ref f31) = true)
    (a32 : PySem.W.nsIn K mainGlobals "_law_bag" = some (some (.ref f32)))
    (l32 : K.lookup f32 = some ⟨oc32, od32, .func (PySem.W.fnOf "_law_bag" "_law_bag" (defArgs s__law_bag) (defBody s__law_bag) (defScope s__law_bag) .none kV32 dc32 pm32 an32 cd32 ct32), sl32⟩)
    (c32 : PySem.W.codeIn K cd32 "_law_bag" = true)
    (k32 : PySem.W.keepIn K (.ref f32) = true)
    (a33 : PySem.W.nsIn K mainGlobals "_law_pick" = some (some (.ref f33)))
    (l33 : K.lookup f33 = some ⟨oc33, od33, .func (PySem.W.fnOf "_law_pick" "_law_pick" (defArgs s__law_pick) (defBody s__law_pick) (defScope s__law_pick) .none kV33 dc33 pm33 an33 cd33 ct33), sl33⟩)
    (c33 : PySem.W.codeIn K cd33 "_law_pick" = true)
    (k33 : PySem.W.keepIn K (.ref f33) = true)
    (a34 : PySem.W.nsIn K mainGlobals "_law_same" = some (some (.ref f34)))
    (l34 : K.lookup f34 = some ⟨oc34, od34, .func (PySem.W.fnOf "_law_same" "_law_same" (defArgs s__law_same) (defBody s__law_same) (defScope s__law_same) .none kV34 dc34 pm34 an34 cd34 ct34), sl34⟩)
    (c34 : PySem.W.codeIn K cd34 "_law_same" = true)
    (k34 : PySem.W.keepIn K (.ref f34) = true)
    (a35 : PySem.W.nsIn K mainGlobals "_law_row" = some (some (.ref f35)))
    (l35 : K.lookup f35 = some ⟨oc35, od35, .func (PySem.W.fnOf "_law_row" "_law_row" (defArgs s__law_row) (defBody s__law_row) (defScope s__law_row) .none kV35 dc35 pm35 an35 cd35 ct35), sl35⟩)
    (c35 : PySem.W.codeIn K cd35 "_law_row" = true)
    (k35 : PySem.W.keepIn K (.ref f35) = true)
    (a36 : PySem.W.nsIn K mainGlobals "law" = some (some (.ref f36)))
    (l36 : K.lookup f36 = some ⟨oc36, od36, .func (PySem.W.fnOf "law" "law" (defArgs s_law) (defBody s_law) (defScope s_law) .none kV36 dc36 pm36 an36 cd36 ct36), sl36⟩)
    (c36 : PySem.W.codeIn K cd36 "law" = true)
    (k36 : PySem.W.keepIn K (.ref f36) = true)
    (e1 : PySem.W.nsIn K mainGlobals "LineError" = some (some (.ref cLE)))
    (e2 : PySem.W.specialIn K (.ref cLE) "__getattribute__" = some (some (.builtin "type.__getattribute__")))
    (e3 : PySem.W.typeIn K (.ref cLE) = some (.type "type"))
    (e4 : PySem.W.readsIn K cLE (.type "type") = true)
    (e5 : PySem.W.findCls K (.ref cLE) (.type "type") "__init__" = some (.val (.ref fLE)))
    (e6 : PySem.W.keepIn K (.ref fLE) = true)
    (e7 : K.lookup fLE = some ⟨ocLE, odLE, .func (PySem.W.fnOf "__init__" "LineError.__init__" (defArgs i_LineError) (defBody i_LineError) (defScope i_LineError) (.ref dLE) kVLE dcLE pmLE anLE cdLE ctLE), slLE⟩)
    (e8 : PySem.W.codeIn K cdLE "LineError.__init__" = true)
    (e9 : K.lookup dLE = some ⟨.type "tuple", oD, .seq #[.str "LineError" tLe1, .str "refused" tLe2] mD, slD⟩)
    (e10 : PySem.W.findCls K (.type "ValueError") (.type "type") "__init__" = some (.val (.builtin "ValueError.__init__")))
    (z_ValueError : PySem.W.nsIn K mainGlobals "ValueError" = some none)
    (gBadBit : PySem.W.nsIn K mainGlobals "BadBit" = some (some (.ref xBadBit)))
    (gaBadBit : PySem.W.findIn K (.ref xBadBit) "__getattribute__" = some (some (.builtin "BaseException.__getattribute__")))
    (ggBadBit : PySem.W.findIn K (.ref xBadBit) "__getattr__" = some none)
    (exBadBit : PySem.W.subIn K (.ref xBadBit) (.type "BaseException") = some true)
    (hdBadBit : PySem.W.hasDictIn K xBadBit = true)
    (noBadBit : PySem.W.findIn K (.ref xBadBit) "at" = some none)
    (gBadByte : PySem.W.nsIn K mainGlobals "BadByte" = some (some (.ref xBadByte)))
    (gaBadByte : PySem.W.findIn K (.ref xBadByte) "__getattribute__" = some (some (.builtin "BaseException.__getattribute__")))
    (ggBadByte : PySem.W.findIn K (.ref xBadByte) "__getattr__" = some none)
    (exBadByte : PySem.W.subIn K (.ref xBadByte) (.type "BaseException") = some true)
    (hdBadByte : PySem.W.hasDictIn K xBadByte = true)
    (noBadByte : PySem.W.findIn K (.ref xBadByte) "at" = some none)
    (gBadCode : PySem.W.nsIn K mainGlobals "BadCode" = some (some (.ref xBadCode)))
    (gaBadCode : PySem.W.findIn K (.ref xBadCode) "__getattribute__" = some (some (.builtin "BaseException.__getattribute__")))
    (ggBadCode : PySem.W.findIn K (.ref xBadCode) "__getattr__" = some none)
    (exBadCode : PySem.W.subIn K (.ref xBadCode) (.type "BaseException") = some true)
    (hdBadCode : PySem.W.hasDictIn K xBadCode = true)
    (noBadCode : PySem.W.findIn K (.ref xBadCode) "at" = some none)
    (gBadFrame : PySem.W.nsIn K mainGlobals "BadFrame" = some (some (.ref xBadFrame)))
    (gaBadFrame : PySem.W.findIn K (.ref xBadFrame) "__getattribute__" = some (some (.builtin "BaseException.__getattribute__")))
    (ggBadFrame : PySem.W.findIn K (.ref xBadFrame) "__getattr__" = some none)
    (exBadFrame : PySem.W.subIn K (.ref xBadFrame) (.type "BaseException") = some true)
    (hdBadFrame : PySem.W.hasDictIn K xBadFrame = true)
    (noBadFrame : PySem.W.findIn K (.ref xBadFrame) "at" = some none)
    (gBadCount : PySem.W.nsIn K mainGlobals "BadCount" = some (some (.ref xBadCount)))
    (gaBadCount : PySem.W.findIn K (.ref xBadCount) "__getattribute__" = some (some (.builtin "BaseException.__getattribute__")))
    (ggBadCount : PySem.W.findIn K (.ref xBadCount) "__getattr__" = some none)
    (exBadCount : PySem.W.subIn K (.ref xBadCount) (.type "BaseException") = some true)
    (hdBadCount : PySem.W.hasDictIn K xBadCount = true)
    (gTooLong : PySem.W.nsIn K mainGlobals "TooLong" = some (some (.ref xTooLong)))
    (gaTooLong : PySem.W.findIn K (.ref xTooLong) "__getattribute__" = some (some (.builtin "BaseException.__getattribute__")))
    (ggTooLong : PySem.W.findIn K (.ref xTooLong) "__getattr__" = some none)
    (exTooLong : PySem.W.subIn K (.ref xTooLong) (.type "BaseException") = some true)
    (hdTooLong : PySem.W.hasDictIn K xTooLong = true)
    (noTooLong : PySem.W.findIn K (.ref xTooLong) "most" = some none)
    (gFull : PySem.W.nsIn K mainGlobals "Full" = some (some (.ref xFull)))
    (gaFull : PySem.W.findIn K (.ref xFull) "__getattribute__" = some (some (.builtin "BaseException.__getattribute__")))
    (ggFull : PySem.W.findIn K (.ref xFull) "__getattr__" = some none)
    (exFull : PySem.W.subIn K (.ref xFull) (.type "BaseException") = some true)
    (hdFull : PySem.W.hasDictIn K xFull = true)
    (noFull : PySem.W.findIn K (.ref xFull) "most" = some none)
    (o1BadBit : K.lookup xBadBit = some (excClassObj nmBadBit qBadBit xBadBit NBadBit bsBadBit bmBadBit true snBadBit subBadBit abBadBit colBadBit ddBadBit kaBadBit kbBadBit kcBadBit kdBadBit keBadBit "ValueError.__new__"))
    (o2BadBit : PySem.HandSPX.refsVE bmBadBit = true)
    (o3BadBit : PySem.W.findIn K (.ref xBadBit) "__setattr__" = some (some (.builtin "object.__setattr__")))
    (o4BadBit : PySem.W.typeIn K (.ref xBadBit) = some (.type "type"))
    (o5BadBit : PySem.W.keepIn K (.ref xBadBit) = true)
    (o6BadBit : PySem.W.findIn K (.ref xBadBit) "__init__" = some (some (.ref fIBadBit)))
    (o7BadBit : PySem.W.typeIn K (.ref fIBadBit) = some (.type "function"))
    (o8BadBit : K.lookup fIBadBit = some ⟨ocBadBit, odBadBit, .func (PySem.W.fnOf "__init__" "BadBit.__init__" (defArgs i_BadBit) (defBody i_BadBit) (defScope i_BadBit) .none kVBadBit dcBadBit pmBadBit anBadBit cdBadBit ctBadBit), slBadBit⟩)
    (o9BadBit : PySem.W.codeIn K cdBadBit "BadBit.__init__" = true)
    (p1BadBit : PySem.W.keepIn K (.ref fIBadBit) = true)
    (p2BadBit : PySem.W.findIn K (.ref xBadBit) "word" = some none)
    (o1BadByte : K.lookup xBadByte = some (excClassObj nmBadByte qBadByte xBadByte NBadByte bsBadByte bmBadByte true snBadByte subBadByte abBadByte colBadByte ddBadByte kaBadByte kbBadByte kcBadByte kdBadByte keBadByte "ValueError.__new__"))
    (o2BadByte : PySem.HandSPX.refsVE bmBadByte = true)
    (o3BadByte : PySem.W.findIn K (.ref xBadByte) "__setattr__" = some (some (.builtin "object.__setattr__")))
    (o4BadByte : PySem.W.typeIn K (.ref xBadByte) = some (.type "type"))
    (o5BadByte : PySem.W.keepIn K (.ref xBadByte) = true)
    (o6BadByte : PySem.W.findIn K (.ref xBadByte) "__init__" = some (some (.ref fIBadByte)))
    (o7BadByte : PySem.W.typeIn K (.ref fIBadByte) = some (.type "function"))
    (o8BadByte : K.lookup fIBadByte = some ⟨ocBadByte, odBadByte, .func (PySem.W.fnOf "__init__" "BadByte.__init__" (defArgs i_BadByte) (defBody i_BadByte) (defScope i_BadByte) .none kVBadByte dcBadByte pmBadByte anBadByte cdBadByte ctBadByte), slBadByte⟩)
    (o9BadByte : PySem.W.codeIn K cdBadByte "BadByte.__init__" = true)
    (p1BadByte : PySem.W.keepIn K (.ref fIBadByte) = true)
    (p2BadByte : PySem.W.findIn K (.ref xBadByte) "word" = some none)
    (o1BadCode : K.lookup xBadCode = some (excClassObj nmBadCode qBadCode xBadCode NBadCode bsBadCode bmBadCode true snBadCode subBadCode abBadCode colBadCode ddBadCode kaBadCode kbBadCode kcBadCode kdBadCode keBadCode "ValueError.__new__"))
    (o2BadCode : PySem.HandSPX.refsVE bmBadCode = true)
    (o3BadCode : PySem.W.findIn K (.ref xBadCode) "__setattr__" = some (some (.builtin "object.__setattr__")))
    (o4BadCode : PySem.W.typeIn K (.ref xBadCode) = some (.type "type"))
    (o5BadCode : PySem.W.keepIn K (.ref xBadCode) = true)
    (o6BadCode : PySem.W.findIn K (.ref xBadCode) "__init__" = some (some (.ref fIBadCode)))
    (o7BadCode : PySem.W.typeIn K (.ref fIBadCode) = some (.type "function"))
    (o8BadCode : K.lookup fIBadCode = some ⟨ocBadCode, odBadCode, .func (PySem.W.fnOf "__init__" "BadCode.__init__" (defArgs i_BadCode) (defBody i_BadCode) (defScope i_BadCode) .none kVBadCode dcBadCode pmBadCode anBadCode cdBadCode ctBadCode), slBadCode⟩)
    (o9BadCode : PySem.W.codeIn K cdBadCode "BadCode.__init__" = true)
    (p1BadCode : PySem.W.keepIn K (.ref fIBadCode) = true)
    (p2BadCode : PySem.W.findIn K (.ref xBadCode) "word" = some none)
    (o1BadFrame : K.lookup xBadFrame = some (excClassObj nmBadFrame qBadFrame xBadFrame NBadFrame bsBadFrame bmBadFrame true snBadFrame subBadFrame abBadFrame colBadFrame ddBadFrame kaBadFrame kbBadFrame kcBadFrame kdBadFrame keBadFrame "ValueError.__new__"))
    (o2BadFrame : PySem.HandSPX.refsVE bmBadFrame = true)
    (o3BadFrame : PySem.W.findIn K (.ref xBadFrame) "__setattr__" = some (some (.builtin "object.__setattr__")))
    (o4BadFrame : PySem.W.typeIn K (.ref xBadFrame) = some (.type "type"))
    (o5BadFrame : PySem.W.keepIn K (.ref xBadFrame) = true)
    (o6BadFrame : PySem.W.findIn K (.ref xBadFrame) "__init__" = some (some (.ref fIBadFrame)))
    (o7BadFrame : PySem.W.typeIn K (.ref fIBadFrame) = some (.type "function"))
    (o8BadFrame : K.lookup fIBadFrame = some ⟨ocBadFrame, odBadFrame, .func (PySem.W.fnOf "__init__" "BadFrame.__init__" (defArgs i_BadFrame) (defBody i_BadFrame) (defScope i_BadFrame) .none kVBadFrame dcBadFrame pmBadFrame anBadFrame cdBadFrame ctBadFrame), slBadFrame⟩)
    (o9BadFrame : PySem.W.codeIn K cdBadFrame "BadFrame.__init__" = true)
    (p1BadFrame : PySem.W.keepIn K (.ref fIBadFrame) = true)
    (p2BadFrame : PySem.W.findIn K (.ref xBadFrame) "word" = some none)
    (o1BadCount : K.lookup xBadCount = some (excClassObj nmBadCount qBadCount xBadCount NBadCount bsBadCount bmBadCount true snBadCount subBadCount abBadCount colBadCount ddBadCount kaBadCount kbBadCount kcBadCount kdBadCount keBadCount "ValueError.__new__"))
    (o2BadCount : PySem.HandSPX.refsVE bmBadCount = true)
    (o3BadCount : PySem.W.findIn K (.ref xBadCount) "__setattr__" = some (some (.builtin "object.__setattr__")))
    (o4BadCount : PySem.W.typeIn K (.ref xBadCount) = some (.type "type"))
    (o5BadCount : PySem.W.keepIn K (.ref xBadCount) = true)
    (o6BadCount : PySem.W.findIn K (.ref xBadCount) "__init__" = some (some (.ref fIBadCount)))
    (o7BadCount : PySem.W.typeIn K (.ref fIBadCount) = some (.type "function"))
    (o8BadCount : K.lookup fIBadCount = some ⟨ocBadCount, odBadCount, .func (PySem.W.fnOf "__init__" "BadCount.__init__" (defArgs i_BadCount) (defBody i_BadCount) (defScope i_BadCount) .none kVBadCount dcBadCount pmBadCount anBadCount cdBadCount ctBadCount), slBadCount⟩)
    (o9BadCount : PySem.W.codeIn K cdBadCount "BadCount.__init__" = true)
    (p1BadCount : PySem.W.keepIn K (.ref fIBadCount) = true)
    (p2BadCount : PySem.W.findIn K (.ref xBadCount) "word" = some none)
    (o1TooLong : K.lookup xTooLong = some (excClassObj nmTooLong qTooLong xTooLong NTooLong bsTooLong bmTooLong true snTooLong subTooLong abTooLong colTooLong ddTooLong kaTooLong kbTooLong kcTooLong kdTooLong keTooLong "ValueError.__new__"))
    (o2TooLong : PySem.HandSPX.refsVE bmTooLong = true)
    (o3TooLong : PySem.W.findIn K (.ref xTooLong) "__setattr__" = some (some (.builtin "object.__setattr__")))
    (o4TooLong : PySem.W.typeIn K (.ref xTooLong) = some (.type "type"))
    (o5TooLong : PySem.W.keepIn K (.ref xTooLong) = true)
    (o6TooLong : PySem.W.findIn K (.ref xTooLong) "__init__" = some (some (.ref fITooLong)))
    (o7TooLong : PySem.W.typeIn K (.ref fITooLong) = some (.type "function"))
    (o8TooLong : K.lookup fITooLong = some ⟨ocTooLong, odTooLong, .func (PySem.W.fnOf "__init__" "TooLong.__init__" (defArgs i_TooLong) (defBody i_TooLong) (defScope i_TooLong) .none kVTooLong dcTooLong pmTooLong anTooLong cdTooLong ctTooLong), slTooLong⟩)
    (o9TooLong : PySem.W.codeIn K cdTooLong "TooLong.__init__" = true)
    (p1TooLong : PySem.W.keepIn K (.ref fITooLong) = true)
    (p2TooLong : PySem.W.findIn K (.ref xTooLong) "word" = some none)
    (o1Full : K.lookup xFull = some (excClassObj nmFull qFull xFull NFull bsFull bmFull true snFull subFull abFull colFull ddFull kaFull kbFull kcFull kdFull keFull "ValueError.__new__"))
    (o2Full : PySem.HandSPX.refsVE bmFull = true)
    (o3Full : PySem.W.findIn K (.ref xFull) "__setattr__" = some (some (.builtin "object.__setattr__")))
    (o4Full : PySem.W.typeIn K (.ref xFull) = some (.type "type"))
    (o5Full : PySem.W.keepIn K (.ref xFull) = true)
    (o6Full : PySem.W.findIn K (.ref xFull) "__init__" = some (some (.ref fIFull)))
    (o7Full : PySem.W.typeIn K (.ref fIFull) = some (.type "function"))
    (o8Full : K.lookup fIFull = some ⟨ocFull, odFull, .func (PySem.W.fnOf "__init__" "Full.__init__" (defArgs i_Full) (defBody i_Full) (defScope i_Full) .none kVFull dcFull pmFull anFull cdFull ctFull), slFull⟩)
    (o9Full : PySem.W.codeIn K cdFull "Full.__init__" = true)
    (p1Full : PySem.W.keepIn K (.ref fIFull) = true)
    (p2Full : PySem.W.findIn K (.ref xFull) "word" = some none)
    (z_enumerate : PySem.W.nsIn K mainGlobals "enumerate" = some none)
    (z_range : PySem.W.nsIn K mainGlobals "range" = some none)
    (z_len : PySem.W.nsIn K mainGlobals "len" = some none)
    (z_list : PySem.W.nsIn K mainGlobals "list" = some none)
    (z_tuple : PySem.W.nsIn K mainGlobals "tuple" = some none)
    (z_sorted : PySem.W.nsIn K mainGlobals "sorted" = some none)
    (z_dict : PySem.W.nsIn K mainGlobals "dict" = some none)
    (z_all : PySem.W.nsIn K mainGlobals "all" = some none)
    (z_bool : PySem.W.nsIn K mainGlobals "bool" = some none)
    (z_int : PySem.W.nsIn K mainGlobals "int" = some none)
    (z_isinstance : PySem.W.nsIn K mainGlobals "isinstance" = some none)
    (z_str : PySem.W.nsIn K mainGlobals "str" = some none)
    (q_BYTE_BITS : PySem.W.nsIn K mainGlobals "BYTE_BITS" = some (some (.int 8 t_BYTE_BITS)))
    (q_GREATEST_BYTE : PySem.W.nsIn K mainGlobals "GREATEST_BYTE" = some (some (.int 255 t_GREATEST_BYTE)))
    (q_MOST_BITS : PySem.W.nsIn K mainGlobals "MOST_BITS" = some (some (.int 64 t_MOST_BITS)))
    (q_MOST_WORDS : PySem.W.nsIn K mainGlobals "MOST_WORDS" = some (some (.int 300 t_MOST_WORDS)))
    (q_LONGEST_ROW : PySem.W.nsIn K mainGlobals "LONGEST_ROW" = some (some (.int 60 t_LONGEST_ROW)))
    (q_BYTE_WORDS : PySem.W.nsIn K mainGlobals "BYTE_WORDS" = some (some (.int 256 t_BYTE_WORDS)))
    (q_CODE_BITS : PySem.W.nsIn K mainGlobals "CODE_BITS" = some (some (.int 9 t_CODE_BITS)))
    (q_PIECE : PySem.W.nsIn K mainGlobals "PIECE" = some (some (.int 40 t_PIECE)))
    (q_WINDOW : PySem.W.nsIn K mainGlobals "WINDOW" = some (some (.int 4 t_WINDOW)))
    (q_NUMBERS : PySem.W.nsIn K mainGlobals "NUMBERS" = some (some (.int 8 t_NUMBERS)))
    (q_NUMBER_BITS : PySem.W.nsIn K mainGlobals "NUMBER_BITS" = some (some (.int 3 t_NUMBER_BITS)))
    (q_HEAD_BITS : PySem.W.nsIn K mainGlobals "HEAD_BITS" = some (some (.int 8 t_HEAD_BITS)))
    (q_MOST_PIECES : PySem.W.nsIn K mainGlobals "MOST_PIECES" = some (some (.int 40 t_MOST_PIECES))) :
    ∃ fd : FuncData, (∀ (s : Shared) (v : Value), BindsTo s fd ⟨[v], []⟩ [("_law_script", v)]) ∧ ∀ base : Heap, K.In base → base.Ns mainGlobals mg → FnOk l.prog w K mg base CX0 10 fa fd ["_law_script"] (spLaw K) := by
  have e := hfa.symm.trans (PySem.W.mg_of X G a36)
  cases e
  have F0 := fun_mk (st := s_check_bits) l0 c0 k0
  have b0 := F0.binds (ps := ["bits"]) fun _ _ _ _ _ _ us hl => match us, hl with | [_], _ => rfl
  have F1 := fun_mk (st := s_check_bytes) l1 c1 k1
  have b1 := F1.binds (ps := ["row"]) fun _ _ _ _ _ _ us hl => match us, hl with | [_], _ => rfl
  have F2 := fun_mk (st := s_number_bits) l2 c2 k2
  have b2 := F2.binds (ps := ["number", "many"]) fun _ _ _ _ _ _ us hl => match us, hl with | [_, _], _ => rfl
  have F3 := fun_mk (st := s_bits_number) l3 c3 k3
  have b3 := F3.binds (ps := ["bits"]) fun _ _ _ _ _ _ us hl => match us, hl with | [_], _ => rfl
  have F4 := fun_mk (st := s_bits_of) l4 c4 k4
  have b4 := F4.binds (ps := ["row"]) fun _ _ _ _ _ _ us hl => match us, hl with | [_], _ => rfl
  have F5 := fun_mk (st := s_has_room) l5 c5 k5
  have b5 := F5.binds (ps := ["words"]) fun _ _ _ _ _ _ us hl => match us, hl with | [_], _ => rfl
  have F6 := fun_mk (st := s_words_at_beginning) l6 c6 k6
  have b6 := F6.binds (ps := ["words"]) fun _ _ _ _ _ _ us hl => match us, hl with | [_], _ => rfl
  have F7 := fun_mk (st := s_longest_code) l7 c7 k7
  have b7 := F7.binds (ps := ["words", "row", "at"]) fun _ _ _ _ _ _ us hl => match us, hl with | [_, _, _], _ => rfl
  have F8 := fun_mk (st := s_word_of) l8 c8 k8
  have b8 := F8.binds (ps := ["words", "code"]) fun _ _ _ _ _ _ us hl => match us, hl with | [_, _], _ => rfl
  have F9 := fun_mk (st := s_learn) l9 c9 k9
  have b9 := F9.binds (ps := ["words", "ahead", "word"]) fun _ _ _ _ _ _ us hl => match us, hl with | [_, _, _], _ => rfl
  have F10 := fun_mk (st := s_numbers_behind_first) l10 c10 k10
  have b10 := F10.binds (ps := ["bits", "many"]) fun _ _ _ _ _ _ us hl => match us, hl with | [_, _], _ => rfl
  have F11 := fun_mk (st := m_Book___init__) l11 c11 k11
  have b11 := F11.binds (ps := ["self"]) fun _ _ _ _ _ _ us hl => match us, hl with | [_], _ => rfl
  have F12 := fun_mk (st := m_Book_shorten) l12 c12 k12
  have b12 := F12.binds (ps := ["self", "row"]) fun _ _ _ _ _ _ us hl => match us, hl with | [_, _], _ => rfl
  have F13 := fun_mk (st := m_Book_lengthen) l13 c13 k13
  have b13 := F13.binds (ps := ["self", "codes"]) fun _ _ _ _ _ _ us hl => match us, hl with | [_, _], _ => rfl
  have F14 := fun_mk (st := m_Book_pack) l14 c14 k14
  have b14 := F14.binds (ps := ["self", "row"]) fun _ _ _ _ _ _ us hl => match us, hl with | [_, _], _ => rfl
  have F15 := fun_mk (st := m_Book_unpack) l15 c15 k15
  have b15 := F15.binds (ps := ["self", "bits"]) fun _ _ _ _ _ _ us hl => match us, hl with | [_, _], _ => rfl
  have F16 := fun_mk (st := m_Book_twin) l16 c16 k16
  have b16 := F16.binds (ps := ["self"]) fun _ _ _ _ _ _ us hl => match us, hl with | [_], _ => rfl
  have F17 := fun_mk (st := s_head_of) l17 c17 k17
  have b17 := F17.binds (ps := ["number", "answer", "comes", "last"]) fun _ _ _ _ _ _ us hl => match us, hl with | [_, _, _, _], _ => rfl
  have F18 := fun_mk (st := s_has_form) l18 c18 k18
  have b18 := F18.binds (ps := ["number", "comes", "last", "piece"]) fun _ _ _ _ _ _ us hl => match us, hl with | [_, _, _, _], _ => rfl
  have F19 := fun_mk (st := s_parted) l19 c19 k19
  have b19 := F19.binds (ps := ["payload"]) fun _ _ _ _ _ _ us hl => match us, hl with | [_], _ => rfl
  have F20 := fun_mk (st := m_Intake___init__) l20 c20 k20
  have b20 := F20.binds (ps := ["self"]) fun _ _ _ _ _ _ us hl => match us, hl with | [_], _ => rfl
  have F21 := fun_mk (st := m_Link___init__) l21 c21 k21
  have b21 := F21.binds (ps := ["self"]) fun _ _ _ _ _ _ us hl => match us, hl with | [_], _ => rfl
  have F22 := fun_mk (st := m_Link_awaited) l22 c22 k22
  have b22 := F22.binds (ps := ["self"]) fun _ _ _ _ _ _ us hl => match us, hl with | [_], _ => rfl
  have F23 := fun_mk (st := m_Link_idle) l23 c23 k23
  have b23 := F23.binds (ps := ["self"]) fun _ _ _ _ _ _ us hl => match us, hl with | [_], _ => rfl
  have F24 := fun_mk (st := m_Link_open_places) l24 c24 k24
  have b24 := F24.binds (ps := ["self"]) fun _ _ _ _ _ _ us hl => match us, hl with | [_], _ => rfl
  have F25 := fun_mk (st := m_Link_unanswered) l25 c25 k25
  have b25 := F25.binds (ps := ["self"]) fun _ _ _ _ _ _ us hl => match us, hl with | [_], _ => rfl
  have F26 := fun_mk (st := m_Link_end_answered) l26 c26 k26
  have b26 := F26.binds (ps := ["self", "answer"]) fun _ _ _ _ _ _ us hl => match us, hl with | [_, _], _ => rfl
  have F27 := fun_mk (st := m_Link_frame) l27 c27 k27
  have b27 := F27.binds (ps := ["self"]) fun _ _ _ _ _ _ us hl => match us, hl with | [_], _ => rfl
  have F28 := fun_mk (st := m_Link_hand) l28 c28 k28
  have b28 := F28.binds (ps := ["self", "row"]) fun _ _ _ _ _ _ us hl => match us, hl with | [_, _], _ => rfl
  have F29 := fun_mk (st := m_Intake_twin) l29 c29 k29
  have b29 := F29.binds (ps := ["self"]) fun _ _ _ _ _ _ us hl => match us, hl with | [_], _ => rfl
  have F30 := fun_mk (st := m_Intake_take_piece) l30 c30 k30
  have b30 := F30.binds (ps := ["self", "number", "last", "piece"]) fun _ _ _ _ _ _ us hl => match us, hl with | [_, _, _, _], _ => rfl
  have F31 := fun_mk (st := m_Link_take) l31 c31 k31
  have b31 := F31.binds (ps := ["self", "payload"]) fun _ _ _ _ _ _ us hl => match us, hl with | [_, _], _ => rfl
  have F32 := fun_mk (st := s__law_bag) l32 c32 k32
  have b32 := F32.binds (ps := ["_law_script"]) fun _ _ _ _ _ _ us hl => match us, hl with | [_], _ => rfl
  have F33 := fun_mk (st := s__law_pick) l33 c33 k33
  have b33 := F33.binds (ps := ["_law_bag_here", "_law_top"]) fun _ _ _ _ _ _ us hl => match us, hl with | [_, _], _ => rfl
  have F34 := fun_mk (st := s__law_same) l34 c34 k34
  have b34 := F34.binds (ps := ["_law_found", "_law_due"]) fun _ _ _ _ _ _ us hl => match us, hl with | [_, _], _ => rfl
  have F35 := fun_mk (st := s__law_row) l35 c35 k35
  have b35 := F35.binds (ps := ["_law_bag_here", "_law_most"]) fun _ _ _ _ _ _ us hl => match us, hl with | [_, _], _ => rfl
  have F36 := fun_mk (st := s_law) l36 c36 k36
  have b36 := F36.binds (ps := ["_law_script"]) fun _ _ _ _ _ _ us hl => match us, hl with | [_], _ => rfl
  have clsBook : Cls K cBook := ⟨r2Book, r3Book, r4Book, r5Book⟩
  have R_Book : BkC K cBook := ⟨clsBook, r_Book_words⟩
  have clsIntake : Cls K cIntake := ⟨r2Intake, r3Intake, r4Intake, r5Intake⟩
  have R_Intake : InC K cIntake := ⟨clsIntake, r_Intake_book, r_Intake_place, r_Intake_kept, r_Intake_begun⟩
  have clsLink : Cls K cLink := ⟨r2Link, r3Link, r4Link, r5Link⟩
  have R_Link : LkC K cLink := ⟨clsLink, r_Link_book, r_Link_intake, r_Link_cut, r_Link_queue, r_Link_sent, r_Link_owes⟩
  have FD : FunD K "__init__" "LineError.__init__" (defArgs i_LineError) (defBody i_LineError) (defScope i_LineError) [.str "LineError", .str "refused"] [] fLE (PySem.W.fnOf "__init__" "LineError.__init__" (defArgs i_LineError) (defBody i_LineError) (defScope i_LineError) (.ref dLE) kVLE dcLE pmLE anLE cdLE ctLE) := ⟨⟨_, _, _, _, _, _, _, _, _, _, rfl, e7, e8, .inr ⟨by simp, dLE, _, _, _, rfl, e9, rfl, .cons ⟨_, rfl⟩ (.cons ⟨_, rfl⟩ .nil)⟩, .inl rfl⟩, e6⟩
  have bLE : Binds K (PySem.W.fnOf "__init__" "LineError.__init__" (defArgs i_LineError) (defBody i_LineError) (defScope i_LineError) (.ref dLE) kVLE dcLE pmLE anLE cdLE ctLE) ["self", "word", "text"] [] := by
    obtain ⟨ds, r, hb⟩ := FD.binds1 (ps := ["self", "word", "text"]) 3 2 (by simp) rfl (fun T kV doc pm an cdv ct us its hu hi => match us, its, hu, hi with | [_, _, _], [_, _], _, _ => ⟨_, rfl, rfl⟩)
    cases r
    exact hb
  have TL : ClsFn K mg "LineError" "__init__" cLE fLE := ⟨PySem.W.mg_of X G e1, e2, e3, e4, e5, rfl, e6⟩
  have OBadBit : OexC K xBadBit := ⟨⟨_, _, _, _, _, _, _, _, _, _, _, _, _, _, _, o1BadBit, o2BadBit⟩, o3BadBit, exBadBit, o4BadBit, o5BadBit⟩
  have FIBadBit := fun_mk (st := i_BadBit) o8BadBit o9BadBit p1BadBit
  have bIBadBit := FIBadBit.binds (ps := ["self", "at"]) fun _ _ _ _ _ _ us hl => match us, hl with | [_, _], _ => rfl
  have OBadByte : OexC K xBadByte := ⟨⟨_, _, _, _, _, _, _, _, _, _, _, _, _, _, _, o1BadByte, o2BadByte⟩, o3BadByte, exBadByte, o4BadByte, o5BadByte⟩
  have FIBadByte := fun_mk (st := i_BadByte) o8BadByte o9BadByte p1BadByte
  have bIBadByte := FIBadByte.binds (ps := ["self", "at"]) fun _ _ _ _ _ _ us hl => match us, hl with | [_, _], _ => rfl
  have OBadCode : OexC K xBadCode := ⟨⟨_, _, _, _, _, _, _, _, _, _, _, _, _, _, _, o1BadCode, o2BadCode⟩, o3BadCode, exBadCode, o4BadCode, o5BadCode⟩
  have FIBadCode := fun_mk (st := i_BadCode) o8BadCode o9BadCode p1BadCode
  have bIBadCode := FIBadCode.binds (ps := ["self", "at"]) fun _ _ _ _ _ _ us hl => match us, hl with | [_, _], _ => rfl
  have OBadFrame : OexC K xBadFrame := ⟨⟨_, _, _, _, _, _, _, _, _, _, _, _, _, _, _, o1BadFrame, o2BadFrame⟩, o3BadFrame, exBadFrame, o4BadFrame, o5BadFrame⟩
  have FIBadFrame := fun_mk (st := i_BadFrame) o8BadFrame o9BadFrame p1BadFrame
  have bIBadFrame := FIBadFrame.binds (ps := ["self", "at"]) fun _ _ _ _ _ _ us hl => match us, hl with | [_, _], _ => rfl
  have OBadCount : OexC K xBadCount := ⟨⟨_, _, _, _, _, _, _, _, _, _, _, _, _, _, _, o1BadCount, o2BadCount⟩, o3BadCount, exBadCount, o4BadCount, o5BadCount⟩
  have FIBadCount := fun_mk (st := i_BadCount) o8BadCount o9BadCount p1BadCount
  have bIBadCount := FIBadCount.binds (ps := ["self"]) fun _ _ _ _ _ _ us hl => match us, hl with | [_], _ => rfl
  have OTooLong : OexC K xTooLong := ⟨⟨_, _, _, _, _, _, _, _, _, _, _, _, _, _, _, o1TooLong, o2TooLong⟩, o3TooLong, exTooLong, o4TooLong, o5TooLong⟩
  have FITooLong := fun_mk (st := i_TooLong) o8TooLong o9TooLong p1TooLong
  have bITooLong := FITooLong.binds (ps := ["self", "most"]) fun _ _ _ _ _ _ us hl => match us, hl with | [_, _], _ => rfl
  have OFull : OexC K xFull := ⟨⟨_, _, _, _, _, _, _, _, _, _, _, _, _, _, _, o1Full, o2Full⟩, o3Full, exFull, o4Full, o5Full⟩
  have FIFull := fun_mk (st := i_Full) o8Full o9Full p1Full
  have bIFull := FIFull.binds (ps := ["self", "most"]) fun _ _ _ _ _ _ us hl => match us, hl with | [_, _], _ => rfl
  refine ⟨PySem.W.fnOf "law" "law" (defArgs s_law) (defBody s_law) (defScope s_law) .none kV36 dc36 pm36 an36 cd36 ct36, fun s v => .of_eq rfl, fun base _ _ => ?_⟩
  have OKL := ok_i_LineError (P := l.prog) (w := w) (base := base) (mg := mg) (k := 0) FD (PySem.W.mg_none_of X G z_ValueError) e10
  have X_BadBit : XcOk l.prog w K mg base 2 "BadBit" xBadBit (spIni K xBadBit "BadBit" "at") := ⟨fIBadBit, _, _, OBadBit, o6BadBit, o7BadBit, ok_i_BadBit FIBadBit TL OKL bLE OBadBit p2BadBit noBadBit, bIBadBit, PySem.W.mg_of X G gBadBit⟩
  have X_BadByte : XcOk l.prog w K mg base 2 "BadByte" xBadByte (spIni K xBadByte "BadByte" "at") := ⟨fIBadByte, _, _, OBadByte, o6BadByte, o7BadByte, ok_i_BadByte FIBadByte TL OKL bLE OBadByte p2BadByte noBadByte, bIBadByte, PySem.W.mg_of X G gBadByte⟩
  have X_BadCode : XcOk l.prog w K mg base 2 "BadCode" xBadCode (spIni K xBadCode "BadCode" "at") := ⟨fIBadCode, _, _, OBadCode, o6BadCode, o7BadCode, ok_i_BadCode FIBadCode TL OKL bLE OBadCode p2BadCode noBadCode, bIBadCode, PySem.W.mg_of X G gBadCode⟩
  have X_BadFrame : XcOk l.prog w K mg base 2 "BadFrame" xBadFrame (spIni K xBadFrame "BadFrame" "at") := ⟨fIBadFrame, _, _, OBadFrame, o6BadFrame, o7BadFrame, ok_i_BadFrame FIBadFrame TL OKL bLE OBadFrame p2BadFrame noBadFrame, bIBadFrame, PySem.W.mg_of X G gBadFrame⟩
  have X_BadCount : XcOk l.prog w K mg base 2 "BadCount" xBadCount (spIni0 K xBadCount "BadCount") := ⟨fIBadCount, _, _, OBadCount, o6BadCount, o7BadCount, ok_i_BadCount FIBadCount TL OKL bLE OBadCount p2BadCount, bIBadCount, PySem.W.mg_of X G gBadCount⟩
  have X_TooLong : XcOk l.prog w K mg base 2 "TooLong" xTooLong (spIni K xTooLong "TooLong" "most") := ⟨fITooLong, _, _, OTooLong, o6TooLong, o7TooLong, ok_i_TooLong FITooLong TL OKL bLE OTooLong p2TooLong noTooLong, bITooLong, PySem.W.mg_of X G gTooLong⟩
  have X_Full : XcOk l.prog w K mg base 2 "Full" xFull (spIni K xFull "Full" "most") := ⟨fIFull, _, _, OFull, o6Full, o7Full, ok_i_Full FIFull TL OKL bLE OFull p2Full noFull, bIFull, PySem.W.mg_of X G gFull⟩
  have C_check_bits : CalX l.prog w K mg base 4 "check_bits" ["bits"] (spCheckX K xBadBit) := ⟨f0, _, ok_check_bits F0 (PySem.W.mg_none_of X G z_enumerate) (X_BadBit.mono (by decide)), PySem.W.mg_of X G a0, k0, b0⟩
  have C_check_bytes : CalX l.prog w K mg base 4 "check_bytes" ["row"] (spCheckY K xBadByte) := ⟨f1, _, ok_check_bytes F1 (PySem.W.mg_none_of X G z_enumerate) (PySem.W.mg_of X G q_GREATEST_BYTE) (X_BadByte.mono (by decide)), PySem.W.mg_of X G a1, k1, b1⟩
  have C_number_bits : CalX l.prog w K mg base 4 "number_bits" ["number", "many"] (spNbX xBadCount) := ⟨f2, _, ok_number_bits F2 (PySem.W.mg_none_of X G z_range) (PySem.W.mg_of X G q_MOST_BITS) (X_BadCount.mono (by decide)), PySem.W.mg_of X G a2, k2, b2⟩
  have C_bits_number : CalX l.prog w K mg base 5 "bits_number" ["bits"] (spBnX K xBadBit xBadCount) := ⟨f3, _, ok_bits_number F3 (PySem.W.mg_none_of X G z_len) (PySem.W.mg_of X G q_MOST_BITS) (X_BadCount.mono (by decide)) (C_check_bits.mono (by decide)), PySem.W.mg_of X G a3, k3, b3⟩
  have C_bits_of : CalX l.prog w K mg base 5 "bits_of" ["row"] (spBits8 K xBadByte) := ⟨f4, _, ok_bits_of F4 (PySem.W.mg_of X G q_BYTE_BITS) (C_check_bytes.mono (by decide)) (C_number_bits.mono (by decide)), PySem.W.mg_of X G a4, k4, b4⟩
  have C_has_room : Cal l.prog w K mg base 1 "has_room" ["words"] (spRoom K) := ⟨f5, _, ok_has_room F5 (PySem.W.mg_none_of X G z_len) (PySem.W.mg_of X G q_BYTE_WORDS) (PySem.W.mg_of X G q_MOST_WORDS), PySem.W.mg_of X G a5, k5, b5⟩
  have C_words_at_beginning : Cal l.prog w K mg base 2 "words_at_beginning" ["words"] (spWAB K) := ⟨f6, _, ok_words_at_beginning F6 (PySem.W.mg_none_of X G z_list) (C_has_room.mono (by decide)), PySem.W.mg_of X G a6, k6, b6⟩
  have C_longest_code : Cal l.prog w K mg base 1 "longest_code" ["words", "row", "at"] (spLC K) := ⟨f7, _, ok_longest_code F7 (PySem.W.mg_none_of X G z_len) (PySem.W.mg_none_of X G z_enumerate) (PySem.W.mg_none_of X G z_tuple) (PySem.W.mg_of X G q_BYTE_WORDS), PySem.W.mg_of X G a7, k7, b7⟩
  have C_word_of : Cal l.prog w K mg base 1 "word_of" ["words", "code"] (spWO K) := ⟨f8, _, ok_word_of F8 (PySem.W.mg_of X G q_BYTE_WORDS), PySem.W.mg_of X G a8, k8, b8⟩
  have C_learn : Cal l.prog w K mg base 2 "learn" ["words", "ahead", "word"] (spLearn K) := ⟨f9, _, ok_learn F9 (PySem.W.mg_none_of X G z_len) (C_has_room.mono (by decide)), PySem.W.mg_of X G a9, k9, b9⟩
  have C_numbers_behind_first : CalX l.prog w K mg base 6 "numbers_behind_first" ["bits", "many"] (spNBF K xBadFrame) := ⟨f10, _, ok_numbers_behind_first F10 (PySem.W.mg_none_of X G z_len) (PySem.W.mg_none_of X G z_range) (X_BadFrame.mono (by decide)) (C_bits_number.mono (by decide)), PySem.W.mg_of X G a10, k10, b10⟩
  have C_new_Book : CalN l.prog w K mg base 1 "Book" cBook ["self"] (spBkI cBook) := ⟨f11, _, ⟨r6Book, a11, i11, r7Book⟩, ok_Book___init__ F11 R_Book, PySem.W.mg_of X G r1Book, b11⟩
  have C_Book_shorten : CalM (L2.CX l.prog w) l.prog w K mg base 5 cBook "shorten" ["self", "row"] (spShort K cBook xBadByte xTooLong) := ⟨f12, _, clsBook, ⟨a12, i12, k12⟩, ok_Book_shorten F12 R_Book (PySem.W.mg_none_of X G z_len) (PySem.W.mg_of X G q_LONGEST_ROW) (X_TooLong.mono (by decide)) (C_check_bytes.mono (by decide)) (C_words_at_beginning.mono (by decide)) (C_longest_code.mono (by decide)) (C_word_of.mono (by decide)) (C_learn.mono (by decide)), b12⟩
  have C_Book_lengthen : CalM (L2.CX l.prog w) l.prog w K mg base 4 cBook "lengthen" ["self", "codes"] (spLong K cBook xBadCode) := ⟨f13, _, clsBook, ⟨a13, i13, k13⟩, ok_Book_lengthen F13 R_Book (PySem.W.mg_none_of X G z_len) (PySem.W.mg_none_of X G z_enumerate) (PySem.W.mg_of X G q_BYTE_WORDS) (PySem.W.mg_of X G q_LONGEST_ROW) (X_BadCode.mono (by decide)) (C_words_at_beginning.mono (by decide)) (C_word_of.mono (by decide)) (C_learn.mono (by decide)), b13⟩
  have C_Book_pack : CalM (L2.CX l.prog w) l.prog w K mg base 6 cBook "pack" ["self", "row"] (spPack K cBook xBadByte xTooLong) := ⟨f14, _, clsBook, ⟨a14, i14, k14⟩, ok_Book_pack F14 R_Book (PySem.W.mg_none_of X G z_len) (PySem.W.mg_of X G q_CODE_BITS) (PySem.W.mg_of X G q_BYTE_BITS) (C_bits_of.mono (by decide)) (C_number_bits.mono (by decide)) (C_Book_shorten.mono (by decide)), b14⟩
  have C_Book_unpack : CalM (L2.CX l.prog w) l.prog w K mg base 7 cBook "unpack" ["self", "bits"] (spUnpack K cBook xBadBit xBadFrame xTooLong xBadCode) := ⟨f15, _, clsBook, ⟨a15, i15, k15⟩, ok_Book_unpack F15 R_Book (PySem.W.mg_none_of X G z_len) (PySem.W.mg_of X G q_CODE_BITS) (PySem.W.mg_of X G q_BYTE_BITS) (X_BadFrame.mono (by decide)) (C_check_bits.mono (by decide)) (C_numbers_behind_first.mono (by decide)) (C_Book_lengthen.mono (by decide)) (C_Book_shorten.mono (by decide)), b15⟩
  have C_Book_twin : CalM CX0 l.prog w K mg base 3 cBook "twin" ["self"] (spBkTwin cBook) := ⟨f16, _, clsBook, ⟨a16, i16, k16⟩, ok_Book_twin F16 R_Book (PySem.W.mg_none_of X G z_list) (C_new_Book.mono (by decide)), b16⟩
  have C_head_of : Cal l.prog w K mg base 5 "head_of" ["number", "answer", "comes", "last"] (spHead) := ⟨f17, _, ok_head_of F17 (PySem.W.mg_of X G q_NUMBER_BITS) (C_number_bits.mono (by decide)), PySem.W.mg_of X G a17, k17, b17⟩
  have C_has_form : Cal l.prog w K mg base 1 "has_form" ["number", "comes", "last", "piece"] (spForm K) := ⟨f18, _, ok_has_form F18 (PySem.W.mg_none_of X G z_len) (PySem.W.mg_of X G q_PIECE), PySem.W.mg_of X G a18, k18, b18⟩
  have C_parted : CalX l.prog w K mg base 6 "parted" ["payload"] (spParted K xBadBit xBadFrame) := ⟨f19, _, ok_parted F19 (PySem.W.mg_none_of X G z_len) (PySem.W.mg_of X G q_HEAD_BITS) (PySem.W.mg_of X G q_NUMBER_BITS) (X_BadFrame.mono (by decide)) (C_check_bits.mono (by decide)) (C_bits_number.mono (by decide)) (C_has_form.mono (by decide)), PySem.W.mg_of X G a19, k19, b19⟩
  have C_new_Intake : CalN l.prog w K mg base 3 "Intake" cIntake ["self"] (spInI cBook cIntake) := ⟨f20, _, ⟨r6Intake, a20, i20, r7Intake⟩, ok_Intake___init__ F20 R_Intake (C_new_Book.mono (by decide)), PySem.W.mg_of X G r1Intake, b20⟩
  have C_new_Link : CalN l.prog w K mg base 5 "Link" cLink ["self"] (spLkI cBook cIntake cLink) := ⟨f21, _, ⟨r6Link, a21, i21, r7Link⟩, ok_Link___init__ F21 R_Link (C_new_Book.mono (by decide)) (C_new_Intake.mono (by decide)), PySem.W.mg_of X G r1Link, b21⟩
  have C_Link_awaited : CalM CX0 l.prog w K mg base 1 cLink "awaited" ["self"] (spAw cBook cIntake cLink) := ⟨f22, _, clsLink, ⟨a22, i22, k22⟩, ok_Link_awaited F22 R_Link R_Intake (PySem.W.mg_of X G q_NUMBERS), b22⟩
  have C_Link_idle : CalM CX0 l.prog w K mg base 1 cLink "idle" ["self"] (spIdle cBook cIntake cLink) := ⟨f23, _, clsLink, ⟨a23, i23, k23⟩, ok_Link_idle F23 R_Link (PySem.W.mg_none_of X G z_len), b23⟩
  have C_Link_open_places : CalM CX0 l.prog w K mg base 1 cLink "open_places" ["self"] (spOpen K cBook cIntake cLink) := ⟨f24, _, clsLink, ⟨a24, i24, k24⟩, ok_Link_open_places F24 R_Link (PySem.W.mg_none_of X G z_sorted), b24⟩
  have C_Link_unanswered : CalM CX0 l.prog w K mg base 2 cLink "unanswered" ["self"] (spUnans K cBook cIntake cLink) := ⟨f25, _, clsLink, ⟨a25, i25, k25⟩, ok_Link_unanswered F25 R_Link (PySem.W.mg_of X G q_NUMBERS) (C_Link_open_places.mono (by decide)), b25⟩
  have C_Link_end_answered : CalM CX0 l.prog w K mg base 2 cLink "end_answered" ["self", "answer"] (spEnd K cBook cIntake cLink) := ⟨f26, _, clsLink, ⟨a26, i26, k26⟩, ok_Link_end_answered F26 R_Link (PySem.W.mg_none_of X G z_len) (PySem.W.mg_of X G q_NUMBERS) (C_Link_open_places.mono (by decide)), b26⟩
  have C_Link_frame : CalM CX0 l.prog w K mg base 6 cLink "frame" ["self"] (spFrame K cBook cIntake cLink) := ⟨f27, _, clsLink, ⟨a27, i27, k27⟩, ok_Link_frame F27 R_Link (PySem.W.mg_none_of X G z_len) (PySem.W.mg_of X G q_WINDOW) (PySem.W.mg_of X G q_NUMBERS) (C_head_of.mono (by decide)) (C_Link_awaited.mono (by decide)), b27⟩
  have C_Link_hand : CalM (L2.CX l.prog w) l.prog w K mg base 7 cLink "hand" ["self", "row"] (spHand K cBook cIntake cLink xBadByte xTooLong xFull) := ⟨f28, _, clsLink, ⟨a28, i28, k28⟩, ok_Link_hand F28 R_Link (PySem.W.mg_none_of X G z_len) (PySem.W.mg_none_of X G z_range) (PySem.W.mg_of X G q_MOST_PIECES) (PySem.W.mg_of X G q_PIECE) (X_Full.mono (by decide)) (C_Book_twin.mono (by decide)) (C_Book_pack.mono (by decide)), b28⟩
  have C_Intake_twin : CalM CX0 l.prog w K mg base 5 cIntake "twin" ["self"] (spInTwin cBook cIntake) := ⟨f29, _, clsIntake, ⟨a29, i29, k29⟩, ok_Intake_twin F29 R_Intake (PySem.W.mg_none_of X G z_dict) (PySem.W.mg_none_of X G z_list) (C_new_Intake.mono (by decide)) (C_Book_twin.mono (by decide)), b29⟩
  have C_Intake_take_piece : CalM (L2.CX l.prog w) l.prog w K mg base 8 cIntake "take_piece" ["self", "number", "last", "piece"] (spTakeP K cBook cIntake xBadFrame xTooLong xBadCode) := ⟨f30, _, clsIntake, ⟨a30, i30, k30⟩, ok_Intake_take_piece F30 R_Intake (PySem.W.mg_of X G q_NUMBERS) (PySem.W.mg_of X G q_WINDOW) (C_Book_unpack.mono (by decide)), b30⟩
  have C_Link_take : CalM (L2.CX l.prog w) l.prog w K mg base 9 cLink "take" ["self", "payload"] (spLkTake K cBook cIntake cLink xBadBit xBadFrame xTooLong xBadCode) := ⟨f31, _, clsLink, ⟨a31, i31, k31⟩, ok_Link_take F31 R_Link (C_parted.mono (by decide)) (C_Intake_twin.mono (by decide)) (C_Intake_take_piece.mono (by decide)) (C_Link_end_answered.mono (by decide)), b31⟩
  have C__law_bag : Cal l.prog w K mg base 1 "_law_bag" ["_law_script"] (spBag K) := ⟨f32, _, ok__law_bag F32 (PySem.W.mg_none_of X G z_len) (PySem.W.mg_none_of X G z_list), PySem.W.mg_of X G a32, k32, b32⟩
  have C__law_pick : Cal l.prog w K mg base 1 "_law_pick" ["_law_bag_here", "_law_top"] (spPick) := ⟨f33, _, ok__law_pick F33 (PySem.W.mg_none_of X G z_len), PySem.W.mg_of X G a33, k33, b33⟩
  have C__law_same : Cal l.prog w K mg base 4 "_law_same" ["_law_found", "_law_due"] (spSame K 4) := ⟨f34, _, ok__law_same F34 (PySem.W.mg_of X G a34) b34 (PySem.W.mg_none_of X G z_len) (PySem.W.mg_none_of X G z_all) (PySem.W.mg_none_of X G z_bool) (PySem.W.mg_none_of X G z_int) (PySem.W.mg_none_of X G z_isinstance) (PySem.W.mg_none_of X G z_list) (PySem.W.mg_none_of X G z_range) (PySem.W.mg_none_of X G z_str) (PySem.W.mg_none_of X G z_tuple) 4, PySem.W.mg_of X G a34, k34, b34⟩
  have C__law_row : Cal l.prog w K mg base 2 "_law_row" ["_law_bag_here", "_law_most"] (spRow) := ⟨f35, _, ok__law_row F35 (PySem.W.mg_none_of X G z_range) (C__law_pick.mono (by decide)), PySem.W.mg_of X G a35, k35, b35⟩
  exact ok_law F36 (PySem.W.mg_none_of X G z_len) (PySem.W.mg_none_of X G z_list) (PySem.W.mg_none_of X G z_range) (C_new_Link.mono (by decide)) (C_Link_hand.mono (by decide)) (C_Link_take.mono (by decide)) (C_Link_frame.mono (by decide)) (C_Link_unanswered.mono (by decide)) (C_Link_idle.mono (by decide)) (C__law_bag.mono (by decide)) (C__law_pick.mono (by decide)) (C__law_same.mono (by decide)) (C__law_row.mono (by decide))
end WB
open PySem PySem.W PyProof.Rows
set_option maxRecDepth 100000 in
set_option maxHeartbeats 0 in
theorem PySem.Challenge.cw_warbleline_k45_whole_links_over_loss_holds : PySem.Challenge.rw_warbleline_k45_whole_links_over_loss.Holds := by
  w_on; o_law; k_head; (case hw => w_witness2)
  k_fill
  refine L2.walk_of (l := PySem.Challenge.rw_warbleline_k45_whole_links_over_loss) (n := 63) (k := 10) (x := "_law_script") (CX := fun _ => L2.CX0) (sp := fun w => WB.spLaw _) rfl (by decide) rfl ⟨rfl, by decide, by decide⟩ (fun w h Y => PySem.W.kIn_of Y) ?F (fun _ _ a ns hl _ hS => ⟨a, ns, rfl, hS, fun _ => rfl⟩) (fun _ _ _ _ _ h => h)
  case F =>
    intro w mg fa h KX G hmg
    refine' WB.all_mk KX G hmg ?r1Book ?r2Book ?r3Book ?r4Book ?r5Book ?r6Book ?r7Book ?r_Book_words ?ob_Book ?r1Intake ?r2Intake ?r3Intake ?r4Intake ?r5Intake ?r6Intake ?r7Intake ?r_Intake_book ?r_Intake_place ?r_Intake_kept ?r_Intake_begun ?r1Link ?r2Link ?r3Link ?r4Link ?r5Link ?r6Link ?r7Link ?r_Link_book ?r_Link_intake ?r_Link_cut ?r_Link_queue ?r_Link_sent ?r_Link_owes ?a0 ?l0 ?c0 ?k0 ?a1 ?l1 ?c1 ?k1 ?a2 ?l2 ?c2 ?k2 ?a3 ?l3 ?c3 ?k3 ?a4 ?l4 ?c4 ?k4 ?a5 ?l5 ?c5 ?k5 ?a6 ?l6 ?c6 ?k6 ?a7 ?l7 ?c7 ?k7 ?a8 ?l8 ?c8 ?k8 ?a9 ?l9 ?c9 ?k9 ?a10 ?l10 ?c10 ?k10 ?a11 ?i11 ?l11 ?c11 ?k11 ?a12 ?i12 ?l12 ?c12 ?k12 ?a13 ?i13 ?l13 ?c13 ?k13 ?a14 ?i14 ?l14 ?c14 ?k14 ?a15 ?i15 ?l15 ?c15 ?k15 ?a16 ?i16 ?l16 ?c16 ?k16 ?a17 ?l17 ?c17 ?k17 ?a18 ?l18 ?c18 ?k18 ?a19 ?l19 ?c19 ?k19 ?a20 ?i20 ?l20 ?c20 ?k20 ?a21 ?i21 ?l21 ?c21 ?k21 ?a22 ?i22 ?l22 ?c22 ?k22 ?a23 ?i23 ?l23 ?c23 ?k23 ?a24 ?i24 ?l24 ?c24 ?k24 ?a25 ?i25 ?l25 ?c25 ?k25 ?a26 ?i26 ?l26 ?c26 ?k26 ?a27 ?i27 ?l27 ?c27 ?k27 ?a28 ?i28 ?l28 ?c28 ?k28 ?a29 ?i29 ?l29 ?c29 ?k29 ?a30 ?i30 ?l30 ?c30 ?k30 ?a31 ?i31 ?l31 ?c31 ?k31 ?a32 ?l32 ?c32 ?k32 ?a33 ?l33 ?c33 ?k33 ?a34 ?l34 ?c34 ?k34 ?a35 ?l35 ?c35 ?k35 ?a36 ?l36 ?c36 ?k36 ?e1 ?e2 ?e3 ?e4 ?e5 ?e6 ?e7 ?e8 ?e9 ?e10 ?z_ValueError ?gBadBit ?gaBadBit ?ggBadBit ?exBadBit ?hdBadBit ?noBadBit ?gBadByte ?gaBadByte ?ggBadByte ?exBadByte ?hdBadByte ?noBadByte ?gBadCode ?gaBadCode ?ggBadCode ?exBadCode ?hdBadCode ?noBadCode ?gBadFrame ?gaBadFrame ?ggBadFrame ?exBadFrame ?hdBadFrame ?noBadFrame ?gBadCount ?gaBadCount ?ggBadCount ?exBadCount ?hdBadCount ?gTooLong ?gaTooLong ?ggTooLong ?exTooLong ?hdTooLong ?noTooLong ?gFull ?gaFull ?ggFull ?exFull ?hdFull ?noFull ?o1BadBit ?o2BadBit ?o3BadBit ?o4BadBit ?o5BadBit ?o6BadBit ?o7BadBit ?o8BadBit ?o9BadBit ?p1BadBit ?p2BadBit ?o1BadByte ?o2BadByte ?o3BadByte ?o4BadByte ?o5BadByte ?o6BadByte ?o7BadByte ?o8BadByte ?o9BadByte ?p1BadByte ?p2BadByte ?o1BadCode ?o2BadCode ?o3BadCode ?o4BadCode ?o5BadCode ?o6BadCode ?o7BadCode ?o8BadCode ?o9BadCode ?p1BadCode ?p2BadCode ?o1BadFrame ?o2BadFrame ?o3BadFrame ?o4BadFrame ?o5BadFrame ?o6BadFrame ?o7BadFrame ?o8BadFrame ?o9BadFrame ?p1BadFrame ?p2BadFrame ?o1BadCount ?o2BadCount ?o3BadCount ?o4BadCount ?o5BadCount ?o6BadCount ?o7BadCount ?o8BadCount ?o9BadCount ?p1BadCount ?p2BadCount ?o1TooLong ?o2TooLong ?o3TooLong ?o4TooLong ?o5TooLong ?o6TooLong ?o7TooLong ?o8TooLong ?o9TooLong ?p1TooLong ?p2TooLong ?o1Full ?o2Full ?o3Full ?o4Full ?o5Full ?o6Full ?o7Full ?o8Full ?o9Full ?p1Full ?p2Full ?z_enumerate ?z_range ?z_len ?z_list ?z_tuple ?z_sorted ?z_dict ?z_all ?z_bool ?z_int ?z_isinstance ?z_str ?q_BYTE_BITS ?q_GREATEST_BYTE ?q_MOST_BITS ?q_MOST_WORDS ?q_LONGEST_ROW ?q_BYTE_WORDS ?q_CODE_BITS ?q_PIECE ?q_WINDOW ?q_NUMBERS ?q_NUMBER_BITS ?q_HEAD_BITS ?q_MOST_PIECES
    (case r1Book => k_is)
    (case r2Book => k_is)
    (case r3Book => k_is)
    (case r4Book => k_is)
    (case r5Book => k_is)
    (case r6Book => k_is)
    (case r7Book => k_is)
    (case r_Book_words => k_is)
    (case ob_Book => k_is)
    (case r1Intake => k_is)
    (case r2Intake => k_is)
    (case r3Intake => k_is)
    (case r4Intake => k_is)
    (case r5Intake => k_is)
    (case r6Intake => k_is)
    (case r7Intake => k_is)
    (case r_Intake_book => k_is)
    (case r_Intake_place => k_is)
    (case r_Intake_kept => k_is)
    (case r_Intake_begun => k_is)
    (case r1Link => k_is)
    (case r2Link => k_is)
    (case r3Link => k_is)
    (case r4Link => k_is)
    (case r5Link => k_is)
    (case r6Link => k_is)
    (case r7Link => k_is)
    (case r_Link_book => k_is)
    (case r_Link_intake => k_is)
    (case r_Link_cut => k_is)
    (case r_Link_queue => k_is)
    (case r_Link_sent => k_is)
    (case r_Link_owes => k_is)
    (case a0 => k_is)
    (case l0 => k_is)
    (case c0 => k_is)
    (case k0 => k_is)
    (case a1 => k_is)
    (case l1 => k_is)
    (case c1 => k_is)
    (case k1 => k_is)
    (case a2 => k_is)
    (case l2 => k_is)
    (case c2 => k_is)
    (case k2 => k_is)
    (case a3 => k_is)
    (case l3 => k_is)
    (case c3 => k_is)
    (case k3 => k_is)
    (case a4 => k_is)
    (case l4 => k_is)
    (case c4 => k_is)
    (case k4 => k_is)
    (case a5 => k_is)
    (case l5 => k_is)
    (case c5 => k_is)
    (case k5 => k_is)
    (case a6 => k_is)
    (case l6 => k_is)
    (case c6 => k_is)
    (case k6 => k_is)
    (case a7 => k_is)
    (case l7 => k_is)
    (case c7 => k_is)
    (case k7 => k_is)
    (case a8 => k_is)
    (case l8 => k_is)
    (case c8 => k_is)
    (case k8 => k_is)
    (case a9 => k_is)
    (case l9 => k_is)
    (case c9 => k_is)
    (case k9 => k_is)
    (case a10 => k_is)
    (case l10 => k_is)
    (case c10 => k_is)
    (case k10 => k_is)
    (case a11 => k_is)
    (case i11 => k_is)
    (case l11 => k_is)
    (case c11 => k_is)
    (case k11 => k_is)
    (case a12 => k_is)
    (case i12 => k_is)
    (case l12 => k_is)
    (case c12 => k_is)
    (case k12 => k_is)
    (case a13 => k_is)
    (case i13 => k_is)
    (case l13 => k_is)
    (case c13 => k_is)
    (case k13 => k_is)
    (case a14 => k_is)
    (case i14 => k_is)
    (case l14 => k_is)
    (case c14 => k_is)
    (case k14 => k_is)
    (case a15 => k_is)
    (case i15 => k_is)
    (case l15 => k_is)
    (case c15 => k_is)
    (case k15 => k_is)
    (case a16 => k_is)
    (case i16 => k_is)
    (case l16 => k_is)
    (case c16 => k_is)
    (case k16 => k_is)
    (case a17 => k_is)
    (case l17 => k_is)
    (case c17 => k_is)
    (case k17 => k_is)
    (case a18 => k_is)
    (case l18 => k_is)
    (case c18 => k_is)
    (case k18 => k_is)
    (case a19 => k_is)
    (case l19 => k_is)
    (case c19 => k_is)
    (case k19 => k_is)
    (case a20 => k_is)
    (case i20 => k_is)
    (case l20 => k_is)
    (case c20 => k_is)
    (case k20 => k_is)
    (case a21 => k_is)
    (case i21 => k_is)
    (case l21 => k_is)
    (case c21 => k_is)
    (case k21 => k_is)
    (case a22 => k_is)
    (case i22 => k_is)
    (case l22 => k_is)
    (case c22 => k_is)
    (case k22 => k_is)
    (case a23 => k_is)
    (case i23 => k_is)
    (case l23 => k_is)
    (case c23 => k_is)
    (case k23 => k_is)
    (case a24 => k_is)
    (case i24 => k_is)
    (case l24 => k_is)
    (case c24 => k_is)
    (case k24 => k_is)
    (case a25 => k_is)
    (case i25 => k_is)
    (case l25 => k_is)
    (case c25 => k_is)
    (case k25 => k_is)
    (case a26 => k_is)
    (case i26 => k_is)
    (case l26 => k_is)
    (case c26 => k_is)
    (case k26 => k_is)
    (case a27 => k_is)
    (case i27 => k_is)
    (case l27 => k_is)
    (case c27 => k_is)
    (case k27 => k_is)
    (case a28 => k_is)
    (case i28 => k_is)
    (case l28 => k_is)
    (case c28 => k_is)
    (case k28 => k_is)
    (case a29 => k_is)
    (case i29 => k_is)
    (case l29 => k_is)
    (case c29 => k_is)
    (case k29 => k_is)
    (case a30 => k_is)
    (case i30 => k_is)
    (case l30 => k_is)
    (case c30 => k_is)
    (case k30 => k_is)
    (case a31 => k_is)
    (case i31 => k_is)
    (case l31 => k_is)
    (case c31 => k_is)
    (case k31 => k_is)
    (case a32 => k_is)
    (case l32 => k_is)
    (case c32 => k_is)
    (case k32 => k_is)
    (case a33 => k_is)
    (case l33 => k_is)
    (case c33 => k_is)
    (case k33 => k_is)
    (case a34 => k_is)
    (case l34 => k_is)
    (case c34 => k_is)
    (case k34 => k_is)
    (case a35 => k_is)
    (case l35 => k_is)
    (case c35 => k_is)
    (case k35 => k_is)
    (case a36 => k_is)
    (case l36 => k_is)
    (case c36 => k_is)
    (case k36 => k_is)
    (case e1 => k_is)
    (case e2 => k_is)
    (case e3 => k_is)
    (case e4 => k_is)
    (case e5 => k_is)
    (case e6 => k_is)
    (case e7 => k_is)
    (case e8 => k_is)
    (case e9 => k_is)
    (case e10 => k_is)
    (case z_ValueError => k_is)
    (case gBadBit => k_is)
    (case gaBadBit => k_is)
    (case ggBadBit => k_is)
    (case exBadBit => k_is)
    (case hdBadBit => k_is)
    (case noBadBit => k_is)
    (case gBadByte => k_is)
    (case gaBadByte => k_is)
    (case ggBadByte => k_is)
    (case exBadByte => k_is)
    (case hdBadByte => k_is)
    (case noBadByte => k_is)
    (case gBadCode => k_is)
    (case gaBadCode => k_is)
    (case ggBadCode => k_is)
    (case exBadCode => k_is)
    (case hdBadCode => k_is)
    (case noBadCode => k_is)
    (case gBadFrame => k_is)
    (case gaBadFrame => k_is)
    (case ggBadFrame => k_is)
    (case exBadFrame => k_is)
    (case hdBadFrame => k_is)
    (case noBadFrame => k_is)
    (case gBadCount => k_is)
    (case gaBadCount => k_is)
    (case ggBadCount => k_is)
    (case exBadCount => k_is)
    (case hdBadCount => k_is)
    (case gTooLong => k_is)
    (case gaTooLong => k_is)
    (case ggTooLong => k_is)
    (case exTooLong => k_is)
    (case hdTooLong => k_is)
    (case noTooLong => k_is)
    (case gFull => k_is)
    (case gaFull => k_is)
    (case ggFull => k_is)
    (case exFull => k_is)
    (case hdFull => k_is)
    (case noFull => k_is)
    (case o1BadBit => k_is)
    (case o2BadBit => decide +kernel)
    (case o3BadBit => k_is)
    (case o4BadBit => k_is)
    (case o5BadBit => k_is)
    (case o6BadBit => k_is)
    (case o7BadBit => k_is)
    (case o8BadBit => k_is)
    (case o9BadBit => k_is)
    (case p1BadBit => k_is)
    (case p2BadBit => k_is)
    (case o1BadByte => k_is)
    (case o2BadByte => decide +kernel)
    (case o3BadByte => k_is)
    (case o4BadByte => k_is)
    (case o5BadByte => k_is)
    (case o6BadByte => k_is)
    (case o7BadByte => k_is)
    (case o8BadByte => k_is)
    (case o9BadByte => k_is)
    (case p1BadByte => k_is)
    (case p2BadByte => k_is)
    (case o1BadCode => k_is)
    (case o2BadCode => decide +kernel)
    (case o3BadCode => k_is)
    (case o4BadCode => k_is)
    (case o5BadCode => k_is)
    (case o6BadCode => k_is)
    (case o7BadCode => k_is)
    (case o8BadCode => k_is)
    (case o9BadCode => k_is)
    (case p1BadCode => k_is)
    (case p2BadCode => k_is)
    (case o1BadFrame => k_is)
    (case o2BadFrame => decide +kernel)
    (case o3BadFrame => k_is)
    (case o4BadFrame => k_is)
    (case o5BadFrame => k_is)
    (case o6BadFrame => k_is)
    (case o7BadFrame => k_is)
    (case o8BadFrame => k_is)
    (case o9BadFrame => k_is)
    (case p1BadFrame => k_is)
    (case p2BadFrame => k_is)
    (case o1BadCount => k_is)
    (case o2BadCount => decide +kernel)
    (case o3BadCount => k_is)
    (case o4BadCount => k_is)
    (case o5BadCount => k_is)
    (case o6BadCount => k_is)
    (case o7BadCount => k_is)
    (case o8BadCount => k_is)
    (case o9BadCount => k_is)
    (case p1BadCount => k_is)
    (case p2BadCount => k_is)
    (case o1TooLong => k_is)
    (case o2TooLong => decide +kernel)
    (case o3TooLong => k_is)
    (case o4TooLong => k_is)
    (case o5TooLong => k_is)
    (case o6TooLong => k_is)
    (case o7TooLong => k_is)
    (case o8TooLong => k_is)
    (case o9TooLong => k_is)
    (case p1TooLong => k_is)
    (case p2TooLong => k_is)
    (case o1Full => k_is)
    (case o2Full => decide +kernel)
    (case o3Full => k_is)
    (case o4Full => k_is)
    (case o5Full => k_is)
    (case o6Full => k_is)
    (case o7Full => k_is)
    (case o8Full => k_is)
    (case o9Full => k_is)
    (case p1Full => k_is)
    (case p2Full => k_is)
    (case z_enumerate => k_is)
    (case z_range => k_is)
    (case z_len => k_is)
    (case z_list => k_is)
    (case z_tuple => k_is)
    (case z_sorted => k_is)
    (case z_dict => k_is)
    (case z_all => k_is)
    (case z_bool => k_is)
    (case z_int => k_is)
    (case z_isinstance => k_is)
    (case z_str => k_is)
    (case q_BYTE_BITS => k_is)
    (case q_GREATEST_BYTE => k_is)
    (case q_MOST_BITS => k_is)
    (case q_MOST_WORDS => k_is)
    (case q_LONGEST_ROW => k_is)
    (case q_BYTE_WORDS => k_is)
    (case q_CODE_BITS => k_is)
    (case q_PIECE => k_is)
    (case q_WINDOW => k_is)
    (case q_NUMBERS => k_is)
    (case q_NUMBER_BITS => k_is)
    (case q_HEAD_BITS => k_is)
    (case q_MOST_PIECES => k_is)
