import PyProof.Rows.All
import Wide.All
import OpenK.AllK
import Wide.FinOn
import HandS.ForMost
import HandS.IsInst
import HandS.Sort
import HandS.Conv
import HandS.ClsMeth
import HandS.CallLocal
import HandS.Codes
import HandS.NoneIn
import HandS.Walk
import HandS.Defaults
import HandS.Strs
import HandS.SlotsOwn
import HandS.TupAny
import HandS.TupMul
import HandS.Deep
import HandS.FStr
import HandS.Zip
import HandS.TupLe
import HandS.Star
import HandS.TupSets
import KE.DataCmp
import HandS.Flow
import HandS.WordsExc
import HandS.TryOnly
import KE.GoesEnumKw
import PySem.Challenge.RW_downpass_k71_worths_of_entries
set_option Elab.async false
set_option linter.all false
set_option maxRecDepth 100000
set_option maxHeartbeats 4000000
namespace DP
open PySem PySem.Spec PyProof.Rows L2
def isPl (p : Addr) (h : Heap) : Prop := ∃ (n : Int) (t : Tok) (k : Nat), h.get? p = some { cls := .type "list", data := .seq #[.int n t] k }
def plO (p : Addr) : HO := .ext (isPl p)
section
variable {P : Program} {w : World} {K : PySem.W.Frag} {mg : Str → Option Value} {base : Heap} {k : Nat} {f : Addr} {fd : FuncData} {ps : List Str} {sp sp' : Sp}
/-- the same objects by another heap that differs at p alone, where neither says own or tuple -/
theorem stay_at {H H' : Hp} {h : Heap} {p a : Addr} {o : HO} (x : ObjOk P w H h a o) (e : ∀ b, b ≠ p → H b = H' b) (n1 : ∀ y, H p ≠ some (.own y)) (n2 : ∀ xs, H p ≠ some (.tup xs)) : ObjOk P w H' h a o :=
  x.stay (fun _ _ _ q => q) (fun b q => by
    have hb : b ≠ p := fun z => n1 _ (z ▸ q)
    rw [← e b hb]; exact q) (fun b xs q => by
    have hb : b ≠ p := fun z => n2 _ (z ▸ q)
    rw [← e b hb]; exact q)
theorem pl_open {H : Hp} {h : Heap} {p : Addr} (ok : HOk P w H h) (e : H p = some (plO p)) : ∃ n : Int, HOk P w (upd H p (.lst [.int n])) h := by
  obtain ⟨⟨n, t, k, g⟩, _⟩ := (show ObjOk P w H h p (.ext (isPl p)) from ok p _ e)
  refine ⟨n, fun a o q => ?_⟩
  by_cases ha : a = p
  · subst ha
    rw [upd_same] at q
    cases q
    exact ⟨(by show 1 ≤ sizeLine; decide), [.int n t], k, .cons ⟨t, rfl⟩ .nil, g⟩
  · rw [upd_ne ha] at q
    exact stay_at (p := p) (ok a o q) (fun b hb => (upd_ne hb).symm) (fun y z => by rw [e] at z; cases z) (fun y z => by rw [e] at z; cases z)
theorem pl_close {H : Hp} {h : Heap} {p : Addr} {m : Int} (ok : HOk P w H h) (e : H p = some (.lst [.int m])) : HOk P w (upd H p (plO p)) h := by
  obtain ⟨_, its, k, r, g⟩ := (show ObjOk P w H h p (.lst [.int m]) from ok p _ e)
  refine fun a o q => ?_
  by_cases ha : a = p
  · subst ha
    rw [upd_same] at q
    cases q
    cases r with
    | cons r1 r2 =>
      cases r2
      obtain ⟨t, rfl⟩ := r1
      refine ⟨⟨m, t, k, g⟩, ⟨_, g⟩, fun h1 h2 z y => ?_⟩
      obtain ⟨n', t', k', g'⟩ := z
      exact ⟨n', t', k', y _ g'⟩
  · rw [upd_ne ha] at q
    exact stay_at (p := p) (ok a o q) (fun b hb => (upd_ne hb).symm) (fun y z => by rw [e] at z; cases z) (fun y z => by rw [e] at z; cases z)
/-- a def that turns the counter, told as one that changes nothing -/
theorem hide_in (F : FnOk P w K mg base CX0 k f fd ps sp) (hl : ∀ vs H Q E, sp' vs H Q E → vs.length = ps.length)
    (hs : ∀ vs H Q E, sp' vs H Q E → ∃ p, H p = some (plO p) ∧ ∀ n : Int, sp vs (upd H p (.lst [.int n])) (fun v H' => (∃ m : Int, H' = upd H p (.lst [.int m])) ∧ Q v H) E) : FnOk P w K mg base CX0 k f fd ps sp' := by
  refine ⟨hl, fun A outer s H args us vs Q E hr he hb hv h => ?_⟩
  obtain ⟨p, ep, h1⟩ := hs vs H Q E h
  obtain ⟨n, ok⟩ := pl_open he.hok ep
  have h2 := h1 n
  have hne : ∀ b, H b = none → b ≠ p := fun b z y => by rw [y, ep] at z; cases z
  refine codeAny_mono (F.run A outer s _ args us vs _ E hr ⟨he.frames, he.mod, fun b o z => ⟨(he.bs b o z).1, by rw [upd_ne (hne b (he.bs b o z).2)]; exact (he.bs b o z).2⟩, he.bsz, he.funs, fun b z => by rw [upd_ne (hne b (he.frf b z))]; exact he.frf b z, ok, he.bare⟩ hb hv h2) fun r s' hq => ?_
  cases r with
  | error e => exact hq.elim
  | ok fl =>
    cases fl with
    | next => exact False.elim hq
    | brk => exact False.elim hq
    | cont => exact False.elim hq
    | ret u =>
      obtain ⟨v, H', os, bare, un, hok, rv, ⟨m, rfl⟩, q⟩ := hq
      refine ⟨v, H, os, bare, ⟨fun b o z n hb hx => un.keep b o z (by rw [upd_ne (hne b n)]; exact n) hb hx, fun b o z n hb hx => un.slot b o z (by rw [upd_ne (hne b n)]; exact n) hb hx, fun _ _ _ n _ => n, un.there, fun _ _ z => z, fun _ _ _ z => z, fun _ ps z => ⟨#[], by rw [z]; simp⟩⟩, ?_, rv, q⟩
      have c := pl_close hok upd_same
      rw [upd_upd] at c
      intro a o z
      have c1 := c a
      have eq : upd H p (plO p) = H := by
        funext b
        by_cases hb : b = p
        · subst hb; rw [upd_same, ep]
        · rw [upd_ne hb]
      rw [eq] at c
      exact c a o z
/-- a def that hands back a heap with such a list: from then on it is a counter -/
theorem hide_out (F : FnOk P w K mg base CX0 k f fd ps sp) (hl : ∀ vs H Q E, sp' vs H Q E → vs.length = ps.length)
    (hs : ∀ vs H Q E, sp' vs H Q E → sp vs H (fun v H' => ∃ (p : Addr) (m : Int), H p = none ∧ H' p = some (.lst [.int m]) ∧ Q v (upd H' p (plO p))) E) : FnOk P w K mg base CX0 k f fd ps sp' := by
  refine ⟨hl, fun A outer s H args us vs Q E hr he hb hv h => ?_⟩
  refine codeAny_mono (F.run A outer s _ args us vs _ E hr he hb hv (hs vs H Q E h)) fun r s' hq => ?_
  cases r with
  | error e => exact hq.elim
  | ok fl =>
    cases fl with
    | next => exact False.elim hq
    | brk => exact False.elim hq
    | cont => exact False.elim hq
    | ret u =>
      obtain ⟨v, H', os, bare, un, hok, rv, p, m, n0, ep, q⟩ := hq
      refine ⟨v, _, os, bare, ⟨un.keep, un.slot, fun b o z n hx => ?_, un.there, fun b xs z => ?_, fun b o u z => ?_, fun b ps z => ?_⟩, pl_close hok ep, rv, q⟩
      · have e1 := un.free b o z n hx
        rw [upd_ne (fun y => by rw [y, ep] at e1; cases e1)]
        exact e1
      · rw [upd_ne (ne_of_none z n0)]; exact un.tups b xs z
      · rw [upd_ne (ne_of_none z n0)]; exact un.frzs b o u z
      · rw [upd_ne (ne_of_none z n0)]; exact un.tbls b ps z
end
end DP
namespace DP
open PySem PySem.Spec PyProof.Rows L2
/-- the built-in names that the text leaves alone -/
structure Bt (mg : Str → Option Value) : Prop where
  len : mg "len" = none
  range : mg "range" = none
  int : mg "int" = none
  abs : mg "abs" = none
  isinstance : mg "isinstance" = none
  bool : mg "bool" = none
  str : mg "str" = none
  tuple : mg "tuple" = none
  list : mg "list" = none
  sum : mg "sum" = none
  max : mg "max" = none
  min : mg "min" = none
  all : mg "all" = none
  enumerate : mg "enumerate" = none
  zip : mg "zip" = none
structure DefOk (P : Program) (w : World) (K : PySem.W.Frag) (mg : Str → Option Value) (base : Heap) (CX : CXT) (k : Nat) (x : Str) (ps : List Str) (sp : Sp) : Prop where
  ex : ∃ f fd, FnOk P w K mg base CX k f fd ps sp ∧ mg x = some (.ref f) ∧ PySem.W.keepIn K (.ref f) = true ∧ Binds K fd ps [] ∧ ∃ oc od osl, K.lookup f = some ⟨oc, od, .func fd, osl⟩
/-- where a def stands -/
structure At (K : PySem.W.Frag) (mg : Str → Option Value) (x : Str) (st : Stmt) (ps : List Str) : Prop where
  ex : ∃ f fd, Fun K x x st f fd ∧ mg x = some (.ref f) ∧ Binds K fd ps []
theorem pe_f {X : Cx} {CX : CXT} {k : Nat} {x : Str} {ps : List Str} {sp : Sp} {E : XK} {e : Expr} {es : List Expr} {t : TA} {p pos : Pos} (D : DefOk X.prog X.w X.K X.mg X.base CX k x ps sp) (hr : Room k X.A) (hx : Passes CX X E) (ha : PA X (e :: es) t)
    (hg : Gl X x := by rfl) (hdb : (x == ("__debug__" : Str)) = false := by decide) (he : starEach (e :: es) X.env = (false, eval e X.env) :: starEach es X.env := by rfl) (hpl : (backTo pos (starEach es X.env)).any (·.1) = false := by rfl) :
    PE X (.Call (.Name x p) (e :: es) [] pos) (tCall sp [] E t) := by
  obtain ⟨f, fd, G, m, kp, b, _⟩ := D.ex
  exact pe_call G hr hg m kp b .nil hx ha hdb he hpl
section
variable {P : Program} {w : World} {K : PySem.W.Frag} {mg : Str → Option Value} {base : Heap} {x : Str} {st : Stmt} {ps N : List Str} {k : Nat} {sp sp' : Sp}
theorem At.ok (F : At K mg x st ps) (S : FnScope N ps (defScope st)) (len : ∀ vs H Q E, sp vs H Q E → vs.length = ps.length)
    (hbody : ∀ (f : Addr) (cdv : Value) (A : Around) (outer : List Env) (s : Shared) (H : Hp) (vs : List V) (Q : VK) (E : XK), Room k (A.deeper (envOfC x (defScope st) s.heap.objs.size f cdv)) → sp vs H Q E →
      ∃ t, PSs (cxOf CX0 P w K mg base N x (defScope st) f cdv A outer s H E).nox (defBody st) t ∧ t { nx := fun _ H' => Q .non H', rt := Q } (start N vs) H) : DefOk P w K mg base CX0 (k + 1) x ps sp := by
  obtain ⟨f, fd, G, m, b⟩ := F.ex
  obtain ⟨oc, od, _, _, _, _, _, _, osl, _, lk, _⟩ := G.ex
  exact ⟨f, fd, G.ok S len (fun cdv A outer s H vs Q E hr h => hbody f cdv A outer s H vs Q E hr h), m, G.kp, b, oc, od, osl, lk⟩
/-- the law's def, for the end -/
theorem At.end_ {l : PySem.W.OpenLaw} {fa : Addr} (F : At K mg x st ["script"]) (hfa : mg x = some (.ref fa)) (h : ∀ base : Heap, DefOk l.prog w K mg base CX0 k x ["script"] sp)
    (hb : ∀ (kV doc pm : Value) (an : Option Addr) (cdv ct v : Value), bindArgs (PySem.W.fnOf x x (defArgs st) (defBody st) (defScope st) .none kV doc pm an cdv ct) ⟨[v], []⟩ = pure [(("script" : Str), v)]) :
    ∃ fd : FuncData, (∀ (s : Shared) (v : Value), BindsTo s fd ⟨[v], []⟩ [("script", v)]) ∧ ∀ base : Heap, K.In base → base.Ns mainGlobals mg → FnOk l.prog w K mg base CX0 k fa fd ["script"] sp := by
  obtain ⟨f, fd, G, m, b⟩ := F.ex
  rw [hfa] at m
  cases m
  refine ⟨fd, fun s v => ?_, fun base _ _ => ?_⟩
  · obtain ⟨oc, od, kV, doc, pm, an, cdv, ct, osl, rfl, lk, _⟩ := G.ex
    exact .of_eq (hb kV doc pm an cdv ct v)
  obtain ⟨f', fd', G', m', _, _, oc', od', osl', lk'⟩ := (h base).ex
  rw [hfa] at m'
  cases m'
  obtain ⟨oc, od, _, _, _, _, _, _, osl, _, lk, _⟩ := G.ex
  rw [lk] at lk'
  cases lk'
  exact G'
theorem DefOk.hide_in (D : DefOk P w K mg base CX0 k x ps sp) (hl : ∀ vs H Q E, sp' vs H Q E → vs.length = ps.length)
    (hs : ∀ vs H Q E, sp' vs H Q E → ∃ p, H p = some (plO p) ∧ ∀ n : Int, sp vs (upd H p (.lst [.int n])) (fun v H' => (∃ m : Int, H' = upd H p (.lst [.int m])) ∧ Q v H) E) : DefOk P w K mg base CX0 k x ps sp' := by
  obtain ⟨f, fd, G, m, kp, b, lk⟩ := D.ex
  exact ⟨f, fd, DP.hide_in G hl hs, m, kp, b, lk⟩
theorem DefOk.hide_out (D : DefOk P w K mg base CX0 k x ps sp) (hl : ∀ vs H Q E, sp' vs H Q E → vs.length = ps.length)
    (hs : ∀ vs H Q E, sp' vs H Q E → sp vs H (fun v H' => ∃ (p : Addr) (m : Int), H p = none ∧ H' p = some (.lst [.int m]) ∧ Q v (upd H' p (plO p))) E) : DefOk P w K mg base CX0 k x ps sp' := by
  obtain ⟨f, fd, G, m, kp, b, lk⟩ := D.ex
  exact ⟨f, fd, DP.hide_out G hl hs, m, kp, b, lk⟩
end
theorem at_mk {h : Heap} {K : PySem.W.Frag} {mg : Str → Option Value} (X : K.In h) (G : h.Ns mainGlobals mg) {x : Str} {st : Stmt} {ps : List Str} {f : Addr} {oc : Value} {od an : Option Addr} {osl : Array (Option Value)} {kV doc pm cdv ct : Value}
    (a : PySem.W.nsIn K mainGlobals x = some (some (.ref f))) (l : K.lookup f = some ⟨oc, od, .func (PySem.W.fnOf x x (defArgs st) (defBody st) (defScope st) .none kV doc pm an cdv ct), osl⟩)
    (c : PySem.W.codeIn K cdv x = true) (k : PySem.W.keepIn K (.ref f) = true)
    (hb : ∀ (kV doc pm : Value) (an : Option Addr) (cdv ct : Value) (us : List Value), us.length = ps.length → bindArgs (PySem.W.fnOf x x (defArgs st) (defBody st) (defScope st) .none kV doc pm an cdv ct) ⟨us, []⟩ = pure (ps.zip us)) : At K mg x st ps := by
  have F := fun_mk (st := st) l c k
  exact ⟨f, _, F, PySem.W.mg_of X G a, F.binds hb⟩
theorem same_new {H : Hp} {p : Addr} (h : H p = none) (o : HO) : Same H (upd H p o) := fun b u q => by rw [upd_ne (ne_of_none q h)]; exact q
theorem same_at {H H' : Hp} {p : Addr} (h : H p = none) (s : Same H H') (o : HO) : Same H (upd H' p o) := fun b u q => by rw [upd_ne (ne_of_none q h)]; exact s _ _ q
theorem Same.tup {K : PySem.W.Frag} {H H' : Hp} {a : Addr} {xs : List V} (e : Same H H') (h : SqT K H a xs) : SqT K H' a xs := by
  rcases h with (h | ⟨o, h⟩) | h
  · exact .inl (.inl (e _ _ h))
  · exact .inl (.inr ⟨o, e _ _ h⟩)
  · exact .inr h
theorem iteT' {c : Bool} {A B : Prop} (e : c = true) (h : A) : if c = true then A else B := by
  rw [if_pos e]
  exact h
theorem iteF' {c : Bool} {A B : Prop} (e : c = false) (h : B) : if c = true then A else B := by
  rw [e]
  exact iteF h
theorem small {n : Nat} (h : n ≤ 1000) : n ≤ sizeLine := Nat.le_of_lt (small1000 h)
section
variable {X : Cx} {K : PySem.W.Frag}
theorem ix_tupK (h : X.K = K) : IxR X (rIxT K) := by subst h; exact ix_tup
theorem call_len_seqK (h : X.K = K) : CallR X (.builtin "len") (fun xs H Q => ∃ p ys, xs = [.ref p] ∧ (SqL K H p ys ∨ SqT K H p ys) ∧ Q (.int ys.length) H) := by subst h; exact call_len_seq
end
end DP
namespace DP
open PySem PySem.Spec PyProof.Rows L2
/-- a span of two ints -/
def SpanV (K : PySem.W.Frag) (H : Hp) (x : V) (q : Int × Int) : Prop := ∃ t, x = .ref t ∧ SqT K H t [.int q.1, .int q.2]
abbrev Spans (K : PySem.W.Frag) (H : Hp) (xs : List V) (qs : List (Int × Int)) : Prop := Paired (SpanV K H) xs qs
theorem paired_snoc {α β : Type} {F : α → β → Prop} : ∀ {xs : List α} {ys : List β} {x : α} {y : β}, Paired F xs ys → F x y → Paired F (xs ++ [x]) (ys ++ [y])
  | _, _, _, _, .nil, h => .cons h .nil
  | _, _, _, _, .cons a t, h => .cons a (paired_snoc t h)
theorem paired_at {α β : Type} {F : α → β → Prop} : ∀ {xs : List α} {ys : List β} {i : Nat} {x : α}, Paired F xs ys → xs[i]? = some x → ∃ y, ys[i]? = some y ∧ F x y
  | _, _, _, _, .nil, h => by simp at h
  | _, _, 0, _, .cons a _, h => ⟨_, rfl, by rw [← Option.some.inj h]; exact a⟩
  | _, _, i + 1, _, .cons _ t, h => by
    obtain ⟨y, h1, h2⟩ := paired_at (i := i) t h
    exact ⟨y, h1, h2⟩
theorem paired_len {α β : Type} {F : α → β → Prop} {xs : List α} {ys : List β} (h : Paired F xs ys) : xs.length = ys.length := Paired.length h
/-- a tuple stands where a list is changed -/
theorem sqT_upd {K : PySem.W.Frag} {H : Hp} {t L : Addr} {xs ys : List V} {o : HO} (h : SqT K H t xs) (e : H L = some (.lst ys)) : SqT K (upd H L o) t xs := by
  rcases h with (h | ⟨u, h⟩) | h
  · exact .inl (.inl (by rw [upd_ne (ne_of h e (fun z => nomatch z))]; exact h))
  · exact .inl (.inr ⟨u, by rw [upd_ne (ne_of h e (fun z => nomatch z))]; exact h⟩)
  · exact .inr h
theorem Spans.upd {K : PySem.W.Frag} {H : Hp} {L : Addr} {xs ys : List V} {qs : List (Int × Int)} {o : HO} (h : Spans K H xs qs) (e : H L = some (.lst ys)) : Spans K (L2.upd H L o) xs qs :=
  Paired.mapP h fun _ _ ⟨t, h1, h2⟩ => ⟨t, h1, sqT_upd h2 e⟩
theorem Spans.same {K : PySem.W.Frag} {H H' : Hp} {xs : List V} {qs : List (Int × Int)} (h : Spans K H xs qs) (s : Same H H') : Spans K H' xs qs :=
  Paired.mapP h fun _ _ ⟨t, h1, h2⟩ => ⟨t, h1, Same.tup s h2⟩
end DP
namespace DP
open PySem PySem.Spec PyProof.Rows L2
abbrev tl (x : Str) : List Nat := TL.tl x
def num (n : Int) : Str := Str.ofString (toString n)
/-- a word of a line -/
def WdOk (w : Str) : Prop := tl w ≠ [] ∧ 32 ∉ tl w ∧ 10 ∉ tl w ∧ (tl w).length ≤ 16
def isL (c : Nat) : Bool := (decide (65 ≤ c) && decide (c ≤ 90)) || (decide (97 ≤ c) && decide (c ≤ 122))
def isD (c : Nat) : Bool := decide (48 ≤ c) && decide (c ≤ 57)
def NameOk (w : Str) : Prop := ∃ c r, tl w = c :: r ∧ isL c = true ∧ (∀ x ∈ r, (isL x || isD x) = true) ∧ r.length ≤ 14
theorem isL_lt {c : Nat} (h : isL c = true) : 65 ≤ c ∧ c ≤ 122 := by
  unfold isL at h
  simp only [Bool.or_eq_true, Bool.and_eq_true, decide_eq_true_eq] at h
  omega
theorem isD_lt {c : Nat} (h : isD c = true) : 48 ≤ c ∧ c ≤ 57 := by
  unfold isD at h
  simp only [Bool.and_eq_true, decide_eq_true_eq] at h
  omega
theorem sign_lt {c : Nat} (h : (isL c || isD c) = true) : 48 ≤ c ∧ c ≤ 122 := by
  rcases Bool.or_eq_true _ _ ▸ h with h | h
  · have := isL_lt h; omega
  · have := isD_lt h; omega
theorem NameOk.signs {w : Str} (h : NameOk w) : ∀ c ∈ tl w, (isL c || isD c) = true := by
  obtain ⟨c, r, e, hc, hr, _⟩ := h
  intro x hx
  rw [e] at hx
  rcases List.mem_cons.mp hx with rfl | hx
  · rw [hc]; rfl
  · exact hr x hx
theorem NameOk.wd {w : Str} (h : NameOk w) : WdOk w := by
  have hs := h.signs
  obtain ⟨c, r, e, hc, hr, hl⟩ := h
  refine ⟨by rw [e]; exact List.cons_ne_nil _ _, fun z => ?_, fun z => ?_, by rw [e, List.length_cons]; omega⟩
  · have := sign_lt (hs _ z); omega
  · have := sign_lt (hs _ z); omega
theorem num_nat {n : Int} (h : 0 ≤ n) : tl (num n) = TL.numL n.toNat := by
  have e : n = ((n.toNat : Nat) : Int) := by omega
  unfold num
  rw [e]
  exact TL.tl_num _
theorem numL_len7 {n : Nat} (h : n < 10000000) : (TL.numL n).length ≤ 7 := TL.numL_len (k := 7) (by decide) (by omega)
theorem num_wd {n : Int} (h0 : 0 ≤ n) (h1 : n < 10000000) : WdOk (num n) := by
  refine ⟨?_, ?_, ?_, ?_⟩
  · rw [num_nat h0]; exact TL.numL_ne _
  · rw [num_nat h0]; exact TL.numL_free (by omega)
  · rw [num_nat h0]; exact TL.numL_free (by omega)
  · rw [num_nat h0]; exact Nat.le_trans (numL_len7 (by omega)) (by decide)
/-- 0, or no 0 ahead -/
theorem numL_head {n : Nat} : ∀ r, TL.numL n = 48 :: r → n = 0 := by
  induction n using Nat.strongRecOn with
  | _ n ih =>
    intro r h
    by_cases c : n < 10
    · rw [TL.numL_lt c] at h
      have := (List.cons.inj h).1
      omega
    · rw [TL.numL_step (by omega)] at h
      cases q : TL.numL (n / 10) with
      | nil => exact absurd q (TL.numL_ne _)
      | cons a b =>
        rw [q] at h
        have e := (List.cons.inj h).1
        have := ih (n / 10) (by omega) b (by rw [q, e])
        omega
def sp : Str := Str.ofString " "
def nl : Str := Str.ofString "\n"
theorem tl_sp : tl sp = [32] := by decide +kernel
theorem tl_nl : tl nl = [10] := by decide +kernel
def row (ws : List Str) : Str := Str.join sp ws
theorem joinL_free {c : Nat} {S : List Nat} (hS : c ∉ S) : ∀ ps : List (List Nat), (∀ p ∈ ps, c ∉ p) → c ∉ TL.joinL S ps
  | [], _ => List.not_mem_nil
  | [p], h => h p List.mem_cons_self
  | p :: q :: r, h => by
    show c ∉ p ++ (S ++ TL.joinL S (q :: r))
    have ih := joinL_free hS (q :: r) fun x hx => h x (List.mem_cons_of_mem _ hx)
    intro z
    rcases List.mem_append.mp z with z | z
    · exact h p List.mem_cons_self z
    · rcases List.mem_append.mp z with z | z
      · exact hS z
      · exact ih z
theorem joinL_len {m : Nat} {S : List Nat} : ∀ ps : List (List Nat), (∀ p ∈ ps, p.length ≤ m) → (TL.joinL S ps).length ≤ ps.length * (m + S.length)
  | [], _ => Nat.zero_le _
  | [p], h => by
    have := h p List.mem_cons_self
    show p.length ≤ 1 * (m + S.length)
    omega
  | p :: q :: r, h => by
    have ih := joinL_len (S := S) (q :: r) fun x hx => h x (List.mem_cons_of_mem _ hx)
    have h1 := h p List.mem_cons_self
    show (p ++ (S ++ TL.joinL S (q :: r))).length ≤ ((q :: r).length + 1) * (m + S.length)
    rw [List.length_append, List.length_append, Nat.add_mul]
    omega
theorem row_free {ws : List Str} (h : ∀ w ∈ ws, WdOk w) : 10 ∉ tl (row ws) := by
  unfold row
  rw [show tl (Str.join sp ws) = TL.joinL (tl sp) (ws.map tl) from TL.tl_join sp ws]
  refine joinL_free (by rw [tl_sp]; decide) _ fun p hp => ?_
  obtain ⟨w, hw, rfl⟩ := List.mem_map.mp hp
  exact (h w hw).2.2.1
theorem row_len {ws : List Str} (h : ∀ w ∈ ws, WdOk w) : (row ws).length ≤ ws.length * 17 := by
  rw [TL.len_tl]
  unfold row
  rw [show TL.tl (Str.join sp ws) = TL.joinL (tl sp) (ws.map tl) from TL.tl_join sp ws]
  have := joinL_len (m := 16) (S := tl sp) (ws.map tl) fun p hp => by
    obtain ⟨w, hw, rfl⟩ := List.mem_map.mp hp
    exact (h w hw).2.2.2
  rw [List.length_map, tl_sp] at this
  rw [tl_sp]
  exact this
theorem row_split {ws : List Str} (hn : ws ≠ []) (h : ∀ w ∈ ws, WdOk w) : Txt.split (row ws) sp = ws := by
  have e := TL.split_join (y := sp) (s := 32) (S := []) tl_sp (by decide +kernel) hn (fun p hp => (h p hp).2.1)
  rw [TL.join_eq] at e
  exact e
/-- the text of rows, each with its newline -/
def glue (rows : List Str) : Str := Str.join nl (rows ++ [Str.empty])
theorem glue_split {rows : List Str} (h : ∀ r ∈ rows, 10 ∉ tl r) : Txt.split (glue rows) nl = rows ++ [Str.empty] := by
  have e := TL.split_join (y := nl) (s := 10) (S := []) tl_nl (by decide +kernel) (parts := rows ++ [Str.empty]) (by simp) (fun p hp => by
    rcases List.mem_append.mp hp with hp | hp
    · exact h p hp
    · rw [List.mem_singleton.mp hp]
      exact List.not_mem_nil)
  rw [TL.join_eq] at e
  exact e
theorem glue_tl : ∀ rows : List Str, tl (glue rows) = (rows.map fun r => tl r ++ [10]).flatten
  | [] => rfl
  | [r] => by
    show tl (r ++ nl ++ Str.empty) = tl r ++ [10] ++ []
    rw [show tl (r ++ nl ++ Str.empty) = tl (r ++ nl) ++ tl Str.empty from TL.tl_append _ _, show tl (r ++ nl) = tl r ++ tl nl from TL.tl_append _ _, tl_nl]
    rfl
  | r :: q :: z => by
    have ih := glue_tl (q :: z)
    show tl (r ++ nl ++ Str.join nl ((q :: z) ++ [Str.empty])) = tl r ++ [10] ++ ((q :: z).map fun r => tl r ++ [10]).flatten
    rw [show tl (r ++ nl ++ Str.join nl ((q :: z) ++ [Str.empty])) = tl (r ++ nl) ++ tl (Str.join nl ((q :: z) ++ [Str.empty])) from TL.tl_append _ _, show tl (r ++ nl) = tl r ++ tl nl from TL.tl_append _ _, tl_nl, ← ih]
    rfl
/-- the law's own making of it: no separator, each row with its newline -/
theorem join_nl (rows : List Str) : Txt.join Str.empty (rows.map fun r => r ++ nl) = glue rows := by
  refine TL.ext_tl ?_
  show tl _ = tl _
  rw [glue_tl, TL.join_eq]
  rw [show tl (Str.join Str.empty (rows.map fun r => r ++ nl)) = TL.joinL (tl Str.empty) ((rows.map fun r => r ++ nl).map tl) from TL.tl_join _ _]
  rw [List.map_map]
  have e : (tl ∘ fun r : Str => r ++ nl) = fun r => tl r ++ [10] := by
    funext r
    show tl (r ++ nl) = _
    rw [show tl (r ++ nl) = tl r ++ tl nl from TL.tl_append _ _, tl_nl]
  rw [e]
  generalize (rows.map fun r => tl r ++ [10]) = ls
  have flat : ∀ ls : List (List Nat), TL.joinL (tl Str.empty) ls = ls.flatten := by
    intro ls
    induction ls with
    | nil => rfl
    | cons a r ih =>
      cases r with
      | nil =>
        show a = a ++ []
        rw [List.append_nil]
      | cons b t =>
        show a ++ ([] ++ TL.joinL (tl Str.empty) (b :: t)) = a ++ (b :: t).flatten
        rw [List.nil_append, ih]
  exact flat ls
theorem glue_len {rows : List Str} {m : Nat} (h : ∀ r ∈ rows, r.length ≤ m) : (glue rows).length ≤ (rows.length + 1) * (m + 1) := by
  rw [TL.len_tl]
  unfold glue
  rw [show TL.tl (Str.join nl (rows ++ [Str.empty])) = TL.joinL (tl nl) ((rows ++ [Str.empty]).map tl) from TL.tl_join _ _]
  have := joinL_len (m := m) (S := tl nl) ((rows ++ [Str.empty]).map tl) fun p hp => by
    obtain ⟨w, hw, rfl⟩ := List.mem_map.mp hp
    rcases List.mem_append.mp hw with hw | hw
    · have := h w hw
      rw [TL.len_tl] at this
      exact this
    · rw [List.mem_singleton.mp hw]
      exact Nat.zero_le _
  rw [List.length_map, List.length_append, tl_nl] at this
  rw [tl_nl]
  exact this
structure SatD where
  name : Str
  store : Int
  battery : Int
  level : Int
  reserve : Int
  charge : Int
  settle : Int
  light : List (Int × Int)
structure StaD where
  name : Str
  antennas : Int
  turn : Int
structure RecD where
  name : Str
  sat : Nat
  earliest : Int
  latest : Int
  length : Int
  size : Int
  energy : Int
  worth : Int
  rank : Int
  deadline : Int
structure PasD where
  name : Str
  sat : Nat
  sta : Nat
  first : Int
  fin : Int
  room : Int
  energy : Int
  fee : Int
structure WorldD where
  horizon : Int
  sats : List SatD
  stas : List StaD
  recs : List RecD
  pass : List PasD
def lightW : List (Int × Int) → List Str
  | [] => []
  | q :: r => num q.1 :: num q.2 :: lightW r
def wHor (h : Int) : List Str := [Str.ofString "horizon", num h]
def wSat (s : SatD) : List Str := [Str.ofString "satellite", s.name, Str.ofString "store", num s.store, Str.ofString "battery", num s.battery, Str.ofString "level", num s.level,
  Str.ofString "reserve", num s.reserve, Str.ofString "charge", num s.charge, Str.ofString "settle", num s.settle, Str.ofString "light"] ++ lightW s.light
def wSta (s : StaD) : List Str := [Str.ofString "station", s.name, Str.ofString "antennas", num s.antennas, Str.ofString "turn", num s.turn]
def satN (W : WorldD) (i : Nat) : Str := ((W.sats.map (·.name))[i]?).getD Str.empty
def staN (W : WorldD) (i : Nat) : Str := ((W.stas.map (·.name))[i]?).getD Str.empty
def wRec (W : WorldD) (r : RecD) : List Str := [Str.ofString "recording", r.name, Str.ofString "by", satN W r.sat, Str.ofString "from", num r.earliest, Str.ofString "to", num r.latest,
  Str.ofString "length", num r.length, Str.ofString "size", num r.size, Str.ofString "energy", num r.energy, Str.ofString "worth", num r.worth, Str.ofString "rank", num r.rank, Str.ofString "until", num r.deadline]
def wPas (W : WorldD) (p : PasD) : List Str := [Str.ofString "pass", p.name, Str.ofString "by", satN W p.sat, Str.ofString "over", staN W p.sta, Str.ofString "from", num p.first, Str.ofString "to", num p.fin,
  Str.ofString "room", num p.room, Str.ofString "energy", num p.energy, Str.ofString "fee", num p.fee]
def linesW (W : WorldD) : List (List Str) := wHor W.horizon :: (W.sats.map wSat ++ W.stas.map wSta ++ W.recs.map (wRec W) ++ W.pass.map (wPas W))
def textW (W : WorldD) : Str := glue ((linesW W).map row)
def LightOk : Int → Int → List (Int × Int) → Prop
  | _, _, [] => True
  | least, h, q :: r => least ≤ q.1 ∧ q.1 + 1 ≤ q.2 ∧ q.2 ≤ h ∧ LightOk q.2 h r
structure SatOk (h : Int) (s : SatD) : Prop where
  name : NameOk s.name
  store : 0 ≤ s.store ∧ s.store ≤ 1000000
  battery : 0 ≤ s.battery ∧ s.battery ≤ 1000000
  level : 0 ≤ s.level ∧ s.level ≤ s.battery
  reserve : 0 ≤ s.reserve ∧ s.reserve ≤ s.level
  charge : 0 ≤ s.charge ∧ s.charge ≤ 1000
  settle : 0 ≤ s.settle ∧ s.settle ≤ 60
  light : LightOk 0 h s.light
structure StaOk (s : StaD) : Prop where
  name : NameOk s.name
  antennas : 1 ≤ s.antennas ∧ s.antennas ≤ 3
  turn : 0 ≤ s.turn ∧ s.turn ≤ 60
structure RecOk (W : WorldD) (r : RecD) : Prop where
  name : NameOk r.name
  sat : r.sat < W.sats.length
  earliest : 0 ≤ r.earliest ∧ r.earliest ≤ W.horizon - 1
  latest : r.earliest ≤ r.latest ∧ r.latest ≤ r.earliest + 20 ∧ r.latest ≤ W.horizon - 1
  length : 1 ≤ r.length ∧ r.length ≤ W.horizon - r.latest
  size : 0 ≤ r.size ∧ r.size ≤ 1000000
  energy : 0 ≤ r.energy ∧ r.energy ≤ 1000000
  worth : 1 ≤ r.worth ∧ r.worth ≤ 1000
  rank : 1 ≤ r.rank ∧ r.rank ≤ 3
  deadline : 0 ≤ r.deadline ∧ r.deadline ≤ W.horizon
structure PasOk (W : WorldD) (p : PasD) : Prop where
  name : NameOk p.name
  sat : p.sat < W.sats.length
  sta : p.sta < W.stas.length
  first : 0 ≤ p.first ∧ p.first ≤ W.horizon - 1
  fin : p.first + 1 ≤ p.fin ∧ p.fin ≤ W.horizon
  room : 0 ≤ p.room ∧ p.room ≤ 1000000
  energy : 0 ≤ p.energy ∧ p.energy ≤ 1000000
  fee : 0 ≤ p.fee ∧ p.fee ≤ 1000
structure WorldOk (W : WorldD) : Prop where
  horizon : 1 ≤ W.horizon ∧ W.horizon ≤ 500
  nSats : W.sats.length ≤ 3
  nStas : W.stas.length ≤ 3
  nRecs : W.recs.length ≤ 10
  nPass : W.pass.length ≤ 10
  dSats : (W.sats.map (·.name)).Nodup
  dStas : (W.stas.map (·.name)).Nodup
  dRecs : (W.recs.map (·.name)).Nodup
  dPass : (W.pass.map (·.name)).Nodup
  sats : ∀ s ∈ W.sats, SatOk W.horizon s
  stas : ∀ s ∈ W.stas, StaOk s
  recs : ∀ r ∈ W.recs, RecOk W r
  pass : ∀ p ∈ W.pass, PasOk W p
theorem LightOk.len {h : Int} : ∀ {l : List (Int × Int)} {least : Int}, LightOk least h l → least ≤ h → (l.length : Int) ≤ h - least
  | [], least, _, hl => by show (0 : Int) ≤ h - least; omega
  | q :: r, least, ⟨h1, h2, h3, h4⟩, hl => by
    have := h4.len h3
    rw [List.length_cons]
    omega
theorem LightOk.wd {h : Int} (hh : h ≤ 500) : ∀ {l : List (Int × Int)} {least : Int}, 0 ≤ least → LightOk least h l → ∀ w ∈ lightW l, WdOk w
  | [], _, _, _, w, hw => absurd hw List.not_mem_nil
  | q :: r, least, h0, ⟨h1, h2, h3, h4⟩, w, hw => by
    rcases List.mem_cons.mp hw with rfl | hw
    · exact num_wd (by omega) (by omega)
    · rcases List.mem_cons.mp hw with rfl | hw
      · exact num_wd (by omega) (by omega)
      · exact h4.wd hh (by omega) w hw
theorem lightW_len : ∀ l : List (Int × Int), (lightW l).length = 2 * l.length
  | [] => rfl
  | q :: r => by
    show (lightW r).length + 1 + 1 = 2 * (r.length + 1)
    rw [lightW_len r]
    omega
theorem satN_at {W : WorldD} {i : Nat} (h : i < W.sats.length) : (W.sats.map (·.name))[i]? = some (satN W i) := by
  unfold satN
  rw [List.getElem?_eq_getElem (by rw [List.length_map]; exact h)]
  rfl
theorem staN_at {W : WorldD} {i : Nat} (h : i < W.stas.length) : (W.stas.map (·.name))[i]? = some (staN W i) := by
  unfold staN
  rw [List.getElem?_eq_getElem (by rw [List.length_map]; exact h)]
  rfl
theorem satN_ok {W : WorldD} (w : WorldOk W) {i : Nat} (h : i < W.sats.length) : NameOk (satN W i) := by
  obtain ⟨s, hs, e⟩ := List.mem_map.mp (List.mem_of_getElem? (satN_at h))
  rw [← e]
  exact (w.sats s hs).name
theorem staN_ok {W : WorldD} (w : WorldOk W) {i : Nat} (h : i < W.stas.length) : NameOk (staN W i) := by
  obtain ⟨s, hs, e⟩ := List.mem_map.mp (List.mem_of_getElem? (staN_at h))
  rw [← e]
  exact (w.stas s hs).name
/-- all of a list, one by one -/
theorem all_cons {P : Str → Prop} {a : Str} {l : List Str} (h : P a) (t : ∀ w ∈ l, P w) : ∀ w ∈ a :: l, P w := fun w hw => by
  rcases List.mem_cons.mp hw with rfl | hw
  · exact h
  · exact t w hw
theorem all_nil {P : Str → Prop} : ∀ w ∈ ([] : List Str), P w := fun w hw => absurd hw List.not_mem_nil
theorem all_app {P : Str → Prop} {a b : List Str} (h : ∀ w ∈ a, P w) (t : ∀ w ∈ b, P w) : ∀ w ∈ a ++ b, P w := fun w hw => (List.mem_append.mp hw).elim (h w) (t w)
theorem wHor_wd {W : WorldD} (w : WorldOk W) : ∀ x ∈ wHor W.horizon, WdOk x :=
  all_cons (by unfold WdOk; decide +kernel) (all_cons (num_wd (by have := w.horizon; omega) (by have := w.horizon; omega)) all_nil)
theorem wSat_wd {h : Int} (hh : h ≤ 500) {s : SatD} (w : SatOk h s) : ∀ x ∈ wSat s, WdOk x := by
  have h1 := w.store; have h2 := w.battery; have h3 := w.level; have h4 := w.reserve; have h5 := w.charge; have h6 := w.settle
  exact all_app (all_cons (by unfold WdOk; decide +kernel) (all_cons w.name.wd (all_cons (by unfold WdOk; decide +kernel) (all_cons (num_wd (by omega) (by omega)) (all_cons (by unfold WdOk; decide +kernel) (all_cons (num_wd (by omega) (by omega))
    (all_cons (by unfold WdOk; decide +kernel) (all_cons (num_wd (by omega) (by omega)) (all_cons (by unfold WdOk; decide +kernel) (all_cons (num_wd (by omega) (by omega)) (all_cons (by unfold WdOk; decide +kernel) (all_cons (num_wd (by omega) (by omega))
    (all_cons (by unfold WdOk; decide +kernel) (all_cons (num_wd (by omega) (by omega)) (all_cons (by unfold WdOk; decide +kernel) all_nil))))))))))))))) (w.light.wd hh (Int.le_refl 0))
theorem wSta_wd {s : StaD} (w : StaOk s) : ∀ x ∈ wSta s, WdOk x := by
  have h1 := w.antennas; have h2 := w.turn
  exact all_cons (by unfold WdOk; decide +kernel) (all_cons w.name.wd (all_cons (by unfold WdOk; decide +kernel) (all_cons (num_wd (by omega) (by omega)) (all_cons (by unfold WdOk; decide +kernel) (all_cons (num_wd (by omega) (by omega)) all_nil)))))
theorem wRec_wd {W : WorldD} (w : WorldOk W) {r : RecD} (k : RecOk W r) : ∀ x ∈ wRec W r, WdOk x := by
  have h0 := w.horizon; have h1 := k.earliest; have h2 := k.latest; have h3 := k.length; have h4 := k.size; have h5 := k.energy; have h6 := k.worth; have h7 := k.rank; have h8 := k.deadline
  exact all_cons (by unfold WdOk; decide +kernel) (all_cons k.name.wd (all_cons (by unfold WdOk; decide +kernel) (all_cons (satN_ok w k.sat).wd
    (all_cons (by unfold WdOk; decide +kernel) (all_cons (num_wd (by omega) (by omega)) (all_cons (by unfold WdOk; decide +kernel) (all_cons (num_wd (by omega) (by omega)) (all_cons (by unfold WdOk; decide +kernel) (all_cons (num_wd (by omega) (by omega))
    (all_cons (by unfold WdOk; decide +kernel) (all_cons (num_wd (by omega) (by omega)) (all_cons (by unfold WdOk; decide +kernel) (all_cons (num_wd (by omega) (by omega)) (all_cons (by unfold WdOk; decide +kernel) (all_cons (num_wd (by omega) (by omega))
    (all_cons (by unfold WdOk; decide +kernel) (all_cons (num_wd (by omega) (by omega)) (all_cons (by unfold WdOk; decide +kernel) (all_cons (num_wd (by omega) (by omega)) all_nil)))))))))))))))))))
theorem wPas_wd {W : WorldD} (w : WorldOk W) {p : PasD} (k : PasOk W p) : ∀ x ∈ wPas W p, WdOk x := by
  have h0 := w.horizon; have h1 := k.first; have h2 := k.fin; have h3 := k.room; have h4 := k.energy; have h5 := k.fee
  exact all_cons (by unfold WdOk; decide +kernel) (all_cons k.name.wd (all_cons (by unfold WdOk; decide +kernel) (all_cons (satN_ok w k.sat).wd (all_cons (by unfold WdOk; decide +kernel) (all_cons (staN_ok w k.sta).wd
    (all_cons (by unfold WdOk; decide +kernel) (all_cons (num_wd (by omega) (by omega)) (all_cons (by unfold WdOk; decide +kernel) (all_cons (num_wd (by omega) (by omega)) (all_cons (by unfold WdOk; decide +kernel) (all_cons (num_wd (by omega) (by omega))
    (all_cons (by unfold WdOk; decide +kernel) (all_cons (num_wd (by omega) (by omega)) (all_cons (by unfold WdOk; decide +kernel) (all_cons (num_wd (by omega) (by omega)) all_nil)))))))))))))))
theorem linesW_ok {W : WorldD} (w : WorldOk W) : ∀ l ∈ linesW W, l ≠ [] ∧ (∀ x ∈ l, WdOk x) ∧ l.length ≤ 1015 := by
  intro l hl
  unfold linesW at hl
  rcases List.mem_cons.mp hl with rfl | hl
  · exact ⟨List.cons_ne_nil _ _, wHor_wd w, by show 2 ≤ 1015; decide⟩
  rcases List.mem_append.mp hl with hl | hl
  · rcases List.mem_append.mp hl with hl | hl
    · rcases List.mem_append.mp hl with hl | hl
      · obtain ⟨s, hs, rfl⟩ := List.mem_map.mp hl
        have k := w.sats s hs
        refine ⟨List.cons_ne_nil _ _, wSat_wd w.horizon.2 k, ?_⟩
        have h1 := k.light.len (by have := w.horizon; omega)
        have h2 := w.horizon
        have h3 := lightW_len s.light
        have h4 : (wSat s).length = 15 + (lightW s.light).length := by
          unfold wSat
          rw [List.length_append]
          rfl
        omega
      · obtain ⟨s, hs, rfl⟩ := List.mem_map.mp hl
        exact ⟨List.cons_ne_nil _ _, wSta_wd (w.stas s hs), by show 6 ≤ 1015; decide⟩
    · obtain ⟨s, hs, rfl⟩ := List.mem_map.mp hl
      exact ⟨List.cons_ne_nil _ _, wRec_wd w (w.recs s hs), by show 20 ≤ 1015; decide⟩
  · obtain ⟨s, hs, rfl⟩ := List.mem_map.mp hl
    exact ⟨List.cons_ne_nil _ _, wPas_wd w (w.pass s hs), by show 16 ≤ 1015; decide⟩
theorem linesW_len {W : WorldD} (w : WorldOk W) : (linesW W).length ≤ 27 := by
  have h1 := w.nSats; have h2 := w.nStas; have h3 := w.nRecs; have h4 := w.nPass
  unfold linesW
  rw [List.length_cons, List.length_append, List.length_append, List.length_append, List.length_map, List.length_map, List.length_map, List.length_map]
  omega
theorem textW_len {W : WorldD} (w : WorldOk W) : (textW W).length ≤ 1000000 := by
  have h1 := glue_len (rows := (linesW W).map row) (m := 17255) fun r hr => by
    obtain ⟨l, hl, rfl⟩ := List.mem_map.mp hr
    have h2 := row_len (linesW_ok w l hl).2.1
    have h3 := (linesW_ok w l hl).2.2
    omega
  have h2 := linesW_len w
  rw [List.length_map] at h1
  have h3 : ((linesW W).length + 1) * (17255 + 1) ≤ 28 * 17256 := Nat.mul_le_mul_right _ (by omega)
  show (glue _).length ≤ _
  omega
end DP
namespace DP
open PySem PySem.Spec PyProof.Rows L2
/-- the list at a as it stands at each turn, each item in a new pair with the count from k on -/
def IteS (K : PySem.W.Frag) (a : Addr) (k : Int) : It :=
  ⟨fun i H => ∃ (xs : List V) (x : V), SqL K H a xs ∧ xs[i]? = some x,
   fun i H v H' => ∃ T x, v = .ref T ∧ H T = none ∧ H' = upd H T (.tup [.int (k + (i : Nat)), x]) ∧ ∀ xs, SqL K H a xs → xs[i]? = some x,
   fun i H => ∃ xs : List V, SqL K H a xs ∧ xs.length ≤ i⟩
theorem list_not_iter {h : Heap} {a it : Addr} {its : Array Value} {i : Nat} (l : h.IsList a its) (r : h.IsListIter it a i) : a ≠ it := fun z => by
  obtain ⟨o, ho, hc, _⟩ := l
  obtain ⟨o', ho', hc', _⟩ := r
  rw [z, ho'] at ho
  cases ho
  rw [hc] at hc'
  exact absurd hc' (by decide)
theorem turn_enumS {P : Program} {w : World} {K : PySem.W.Frag} {elts : List Expr} {kk : Nat} {tpos : Pos} (a en it : Addr) (k : Int) :
    Turn P w K (.Tuple elts kk tpos) (IteS K a k) [en, it] en (fun i h => (∃ old, IsEnum h en it (k + ((i : Nat) : Int)) old) ∧ h.IsListIter it a i ∧ en ≠ it) where
  mem := by simp
  obj := fun i h st b hb => by
    obtain ⟨⟨old, hen⟩, ⟨o, ho, hc, hd⟩, _⟩ := st
    have two : b = en ∨ b = it := by simpa using hb
    rcases two with z | z
    · subst z
      exact ⟨_, hen, fun v q => nomatch q⟩
    · subst z
      exact ⟨o, ho, fun v q => by rw [hd] at q; cases q⟩
  keep := fun i h h' st kp => by
    obtain ⟨⟨old, hen⟩, hi, hne⟩ := st
    exact ⟨⟨old, kp en (by simp) _ hen⟩, hi.at fun o q => kp it (by simp) o q, hne⟩
  item := by
    intro X hP hw hK hc i pins s σ H E I hf st hg
    subst hP hw hK
    obtain ⟨⟨old, hen⟩, hit, hne⟩ := st
    obtain ⟨xs, x, hq, hx⟩ := hg
    obtain ⟨its, rv, pl, hz⟩ := I.list hq
    obtain ⟨u, hu, ru⟩ := rv.get hx
    have en_lt : en < s.heap.objs.size := Heap.lt_size hen
    have it_lt : it < s.heap.objs.size := by
      obtain ⟨_, q, _⟩ := hit
      exact Heap.lt_size q
    have nel := list_not_iter pl.isList hit
    have Dr := Draws.list (prog := X.prog) (w := X.w) (A := X.A.in1) (I.ok.hd hc) it a nel its.toArray
    have hi : i < its.toArray.size := by
      have := (List.getElem?_eq_some_iff.mp hu).1
      simpa using this
    by_cases ea : en = a
    · exfalso
      obtain ⟨o, ho, hc', _⟩ := pl.isList
      rw [← ea, hen] at ho
      cases ho
      have e : Value.type "enumerate" = Value.type "list" := hc'
      exact absurd e (by decide)
    refine wpAny_pyNext_enum_itemC Dr hen ⟨hit, pl.isList⟩ hi hne (by simp [hne, ea]) fun x' h' tk hP ho hit' hT hsz hk => ?_
    have ex : x' = u := by
      have e1 : its.toArray[i]? = some x' := hP
      have e2 : its.toArray[i]? = some u := by simpa using hu
      exact Option.some.inj (e1.symm.trans e2)
    subst ex
    refine ⟨_, rfl, wpAny_letOwnedTupleGo_enum (s := { s with heap := h', toks := tk + 1 }) ho fun h2 hen2 sb => ?_⟩
    have hT2 : h2.get? s.heap.objs.size = some { cls := .type "tuple", data := .seq #[.int (k + (i : Int)) tk, x'] } :=
      (sb.2 _ (Nat.ne_of_gt en_lt)).trans hT
    have fresh : H s.heap.objs.size = none := I.hok.fresh (Nat.le_refl _)
    have new : ObjOk X.prog X.w (upd H s.heap.objs.size (.tup [.int (k + (i : Nat)), x])) h2 s.heap.objs.size (.tup [.int (k + (i : Nat)), x]) :=
      ⟨(by show 2 ≤ sizeLine; decide), [.int (k + (i : Int)) tk, x'], .cons ⟨_, rfl⟩ (.cons ru .nil), ⟨_, hT2, rfl, _, rfl⟩⟩
    have keepAll : ∀ b ob, b ∉ [en, it] → s.heap.get? b = some ob → h2.get? b = some ob := fun b ob hb q => by
      have n1 : b ≠ en := fun z => hb (by simp [z])
      have n2 : b ≠ it := fun z => hb (by simp [z])
      exact (sb.2 b n1).trans (hk b ob n1 n2 q)
    have I1 := I.turnedNew (t' := tk + 1) (ch := [en, it]) keepAll hf (Nat.le_refl _) new
    refine ⟨.ref s.heap.objs.size, _, I1, rfl, ⟨_, x, rfl, fresh, rfl, fun ys hy => ?_⟩, ⟨⟨x', ?_⟩, ?_, hne⟩, fun b hb => ?_⟩
    · rw [I.list_inj hy hq]
      exact hx
    · have e1 : k + ((i + 1 : Nat) : Int) = k + (i : Int) + 1 := by omega
      rw [e1]
      exact hen2
    · exact hit'.1.at fun o q => (sb.2 it (Ne.symm hne)).trans q
    · have hb' : b < s.heap.objs.size := by
        have two : b = en ∨ b = it := by simpa using hb
        rcases two with z | z
        · rw [z]; exact en_lt
        · rw [z]; exact it_lt
      rw [upd_ne (Nat.ne_of_lt hb')]
      exact (hf b hb).1
  done := by
    intro X hP hw hK hc i pins s σ H E I hf st hg
    subst hP hw hK
    obtain ⟨⟨old, hen⟩, hit, hne⟩ := st
    obtain ⟨xs, hq, hx⟩ := hg
    obtain ⟨its, rv, pl, hz⟩ := I.list hq
    have hl := rv.length
    obtain ⟨f0, f1, f2, f3, f4, f5⟩ := hf it (by simp)
    have hT : s.TypeIs (.ref en) "enumerate" := ⟨_, hen, rfl⟩
    unfold pyNext
    refine wpAny_bind (wpAny_attempt (wpAny_callSpecial?_slot (name := Str.ofString "__next__") hT F.slot_enumerate_next
      (wpAny_call_entry F.slot_enumerate_next hT F.entry_enumerate_next ?_
        (F.args_enumerate_next_1 _))))
    show wpAny _ _ (field (.ref en) 2 >>= _) _ _ _
    refine wpAny_bind (wpAny_field hen rfl (x := .ref it) rfl ?_)
    refine wpAny_bind (wpAny_nextOf_list_end (I.ok.hd hc) hit pl.isList (by simp; omega) fun h' e eb hcl => ?_)
    obtain ⟨o, ho, hcs⟩ := hcl
    refine wpAny_bind (wpAny_isInstance (T := "StopIteration") (b := true) ⟨o, ho, hcs⟩ isSubtype_stop ?_)
    exact wpAny_pure ⟨rfl, I.turned (t' := s.toks) (fun b o hb q => eb b o hb q) f0 f1 f3 f4 f5⟩
  self := fun A i s Q E st h => let ⟨⟨_, hen⟩, _⟩ := st; wpAny_pyIter_enum hen h
/-- enumerate(xs, start=k), walked into a written tuple of names -/
def iEnumS (K : PySem.W.Frag) (ta tk : TA) : TI := fun σ H R => ta σ H fun vs H1 => tk σ H1 fun zs H2 =>
  ∃ a xs k, vs = [.ref a] ∧ zs = [.int k] ∧ SqL K H2 a xs ∧ -(2 ^ 63) ≤ k ∧ k < 2 ^ 63 ∧ R (IteS K a k) H2
theorem pi_enumS {X : Cx} {e ke : Expr} {ta tk : TA} {p pos tpos kp : Pos} {elts : List Expr} {kk : Nat} (hg : Gl X "enumerate") (hm : X.mg "enumerate" = none) (ha : PA X [e] ta) (hk : PK X [⟨some "start", ke, kp⟩] tk)
    (hs : starEach [e] X.env = (false, eval e X.env) :: starEach [] X.env := by rfl) (hpl : ((backTo pos (starEach [e] X.env)).any (·.1) || (backToKw pos (keywordEach [⟨some "start", ke, kp⟩] X.env)).any (·.1.isNone)) = false := by rfl) :
    PI X (.Tuple elts kk tpos) (.Call (.Name "enumerate" p) [e] [⟨some "start", ke, kp⟩] pos) (iEnumS X.K ta tk) := by
  refine ⟨fun pins s σ H R I h => ?_⟩
  refine wpAny_Call_Name_kw (ld_blt I hg hm boot_enumerate ?_)
  refine PySem.W.callWith_of (P := fun _ => True) hpl (fun h _ => ⟨.machine, .inr (.inl rfl), PySem.W.Looks.of_pure rfl⟩) (evalArgs_kw2 (by rfl)
    (thn (ha.run pos pins s σ H _ I h) fun us s1 ⟨vs, H1, I1, r1, q1⟩ => thn (hk.run pos pins s1 σ H1 _ I1 q1) fun ws s2 ⟨zs, H2, I2, r2, q2⟩ => ⟨True.intro, ?_⟩) hs)
  obtain ⟨a, xs, k, ex, ez, hq, b1, b2, q⟩ := q2
  subst ex ez
  obtain ⟨u, eu, ru⟩ := vals1 r1
  obtain ⟨z, ez, rz⟩ := vals1 r2
  subst eu ez
  cases ru
  obtain ⟨t, et⟩ := (show ∃ t, z = Value.int k t from rz)
  subst et
  obtain ⟨its, rv, pl, hz⟩ := I2.list hq
  show wpAny _ _ (call (.type "enumerate") [.ref a] [(Str.ofString "start", .int k t)]) _ _ _
  refine enum_begins_start (begins_list a its.toArray) pl.isList b1 b2 fun h' hen hit hsz hkp => wpAny_pyIter_enum hen ?_
  have I3 : Inv X pins σ H2 { s2 with heap := h' } := I2.kept (t' := s2.toks) hkp
  refine ⟨s2.heap.objs.size + 1, [s2.heap.objs.size + 1, s2.heap.objs.size], _, _, H2, rfl, I3, turn_enumS a (s2.heap.objs.size + 1) s2.heap.objs.size k,
    ⟨⟨.none, ?_⟩, ⟨_, hit, rfl, rfl⟩, Nat.succ_ne_self _⟩, fun b hb => ?_, q⟩
  · show IsEnum h' _ _ (k + 0) _
    rw [Int.add_zero]
    exact hen
  · have two : b = s2.heap.objs.size + 1 ∨ b = s2.heap.objs.size := by simpa using hb
    have hle : s2.heap.objs.size ≤ b := by
      rcases two with z | z
      · rw [z]; exact Nat.le_add_right _ 1
      · rw [z]; exact Nat.le_refl _
    exact I2.fpOk hle (I2.hok.fresh hle)
theorem walk_enumS {K : PySem.W.Frag} {a : Addr} {k : Int} {xs : List V} :
    Walk (IteS K a k) xs.length (fun H => SqL K H a xs) (fun i H v H' => ∃ T x, v = .ref T ∧ H T = none ∧ H' = upd H T (.tup [.int (k + (i : Nat)), x]) ∧ xs[i]? = some x) :=
  ⟨fun i H hi q => ⟨xs, xs[i], q, List.getElem?_eq_getElem hi⟩, fun H q => ⟨xs, q, Nat.le_refl _⟩, fun i H v H' hi q ⟨T, x, e1, e2, e3, e4⟩ => ⟨T, x, e1, e2, e3, e4 xs q⟩⟩
theorem same_mk {H H' : Hp} {x dx : Addr} {o u : HO} (hx : H x = none) (hd : H dx = none) (s : ∀ b v, b ≠ x → (upd (upd H dx o) x u) b = some v → H' b = some v) : Same H H' := fun b v e => by
  have n1 : b ≠ x := ne_of_none e hx
  exact s b v n1 (by rw [upd_ne n1, upd_ne (ne_of_none e hd)]; exact e)
end DP
namespace DP
open PySem PySem.Spec PyProof.Rows L2
structure ClsAt (K : PySem.W.Frag) (mg : Str → Option Value) (x : Str) (C : Addr) : Prop where
  cl : Cls K C
  mkC : PySem.W.makesIn K C = true
  kp : PySem.W.keepIn K (.ref C) = true
  gC : mg x = some (.ref C)
structure MAt (K : PySem.W.Frag) (C : Addr) (m qual : Str) (st : Stmt) (ps : List Str) : Prop where
  ex : ∃ f fd, Fun K m qual st f fd ∧ Meth K C m f ∧ Binds K fd ps []
structure MDef (P : Program) (w : World) (K : PySem.W.Frag) (mg : Str → Option Value) (base : Heap) (CX : CXT) (k : Nat) (C : Addr) (m : Str) (ps : List Str) (ds : List V) (sp : Sp) : Prop where
  ex : ∃ f fd us, FnOk P w K mg base CX k f fd ps sp ∧ Meth K C m f ∧ Binds K fd ps us ∧ Vals ds us
section
variable {X : Cx} {CX : CXT} {k : Nat} {C : Addr} {x m : Str} {ps : List Str} {ds : List V} {sp : Sp} {E : XK} {o e : Expr} {es : List Expr} {ta : TE} {t : TA} {p pos apos : Pos} {pl : Sem Bool}
theorem pe_m (D : MDef X.prog X.w X.K X.mg X.base CX k C m ps ds sp) (c : Cls X.K C) (hr : Room k X.A) (hx : Passes CX X E) (he : PE X o ta) (ha : PA X (e :: es) t)
    (hst : starEach (e :: es) X.env = (false, eval e X.env) :: starEach es X.env := by rfl) (hpl : (backTo pos (starEach es X.env)).any (·.1) = false := by rfl)
    (ht : eval (.Call (.Attribute o m apos) (e :: es) [] pos) X.env = (do
      let ov ← eval o X.env
      standAt apos.atName
      let (f, first) ← holding [ov] (getMethod ov m pl)
      callWith pos f first (backTo pos (starEach (e :: es) X.env)) (backToKw pos (keywordEach [] X.env))) := by rfl) :
    PE X (.Call (.Attribute o m apos) (e :: es) [] pos) (tMeth C m sp ds E ta t) := by
  obtain ⟨f, fd, us, G, M, b, v⟩ := D.ex
  exact pe_meth (pl := pl) he c M G hr b v hx ha hst hpl ht
theorem pe_m0 (D : MDef X.prog X.w X.K X.mg X.base CX k C m ps ds sp) (c : Cls X.K C) (hr : Room k X.A) (hx : Passes CX X E) (he : PE X o ta)
    (ht : eval (.Call (.Attribute o m apos) [] [] pos) X.env = (do
      let ov ← eval o X.env
      standAt apos.atName
      let (f, first) ← holding [ov] (getMethod ov m pl)
      callWith pos f first (backTo pos (starEach [] X.env)) (backToKw pos (keywordEach [] X.env))) := by rfl) :
    PE X (.Call (.Attribute o m apos) [] [] pos) (tMeth C m sp ds E ta tNil) := by
  obtain ⟨f, fd, us, G, M, b, v⟩ := D.ex
  exact pe_meth0 (pl := pl) he c M G hr b v hx ht
theorem pe_mk (D : MDef X.prog X.w X.K X.mg X.base CX k C "__init__" ps ds sp) (c : ClsAt X.K X.mg x C) (hr : Room (k + 1) X.A) (hx : Passes CX X E) (ha : PA X (e :: es) t) (hg : Gl X x := by rfl)
    (hdb : (x == ("__debug__" : Str)) = false := by decide) (he : starEach (e :: es) X.env = (false, eval e X.env) :: starEach es X.env := by rfl) (hpl : (backTo pos (starEach es X.env)).any (·.1) = false := by rfl) :
    PE X (.Call (.Name x p) (e :: es) [] pos) (tMake C sp ds E t) := by
  obtain ⟨f, fd, us, G, M, b, v⟩ := D.ex
  exact pe_make ⟨c.mkC, M.at_, M.fn, c.kp⟩ G hr hg c.gC b v hx ha hdb he hpl
/-- a constant of the module -/
theorem pe_gi {i : Int} (h : ∃ t, X.mg x = some (.int i t)) (hg : Gl X x := by rfl) (hd : (x == ("__debug__" : Str)) = false := by decide) : PE X (.Name x pos) (tC (.int i)) := by
  obtain ⟨t, h⟩ := h
  exact pe_glob hg h ⟨t, rfl⟩ hd
theorem pe_gs {z : Str} (h : ∃ t, X.mg x = some (.str z t)) (hg : Gl X x := by rfl) (hd : (x == ("__debug__" : Str)) = false := by decide) : PE X (.Name x pos) (tC (.str z)) := by
  obtain ⟨t, h⟩ := h
  exact pe_glob hg h ⟨t, rfl⟩ hd
theorem pe_ga {a : Addr} (h : X.mg x = some (.ref a)) (hg : Gl X x := by rfl) (hd : (x == ("__debug__" : Str)) = false := by decide) : PE X (.Name x pos) (tC (.ref a)) := pe_glob hg h rfl hd
end
/-- a method with one default -/
structure MAtD (K : PySem.W.Frag) (C : Addr) (m qual : Str) (st : Stmt) (ps : List Str) (ds : List V) : Prop where
  ex : ∃ f fd us, FunD K m qual (defArgs st) (defBody st) (defScope st) ds [] f fd ∧ Meth K C m f ∧ Binds K fd ps us ∧ Vals ds us
theorem pe_fldK {X : Cx} {K : PySem.W.Frag} (h : X.K = K) {e : Expr} {ta : TE} {f : Str} {pos : Pos} (he : PE X e ta) (hb : attributeBase e f X.env (eval e X.env) = eval e X.env) : PE X (.Attribute e f pos) (tFld K ta f) := by
  subst h
  exact pe_fld he hb
theorem pg_tupK {X : Cx} {K : PySem.W.Frag} (h : X.K = K) {es : List Expr} {k n : Nat} {pos : Pos} {g : TGs} (hc : X.calm = true) (hs : PGs X es g)
    (hn : (assignEach es X.env).length = n := by rfl) (hst : (assignEach es X.env).findIdx? (·.1) = none := by rfl) : PG X (.Tuple es k pos) (gTup K n g) := by
  subst h
  exact pg_tup hc hs hn hst
section
variable {P : Program} {w : World} {K : PySem.W.Frag} {mg : Str → Option Value} {base : Heap} {C : Addr} {m qual : Str} {st : Stmt} {ps N : List Str} {k : Nat} {sp sp' : Sp} {ds : List V}
theorem MAt.ok (F : MAt K C m qual st ps) (S : FnScope N ps (defScope st)) (len : ∀ vs H Q E, sp vs H Q E → vs.length = ps.length)
    (hbody : ∀ (f : Addr) (cdv : Value) (A : Around) (outer : List Env) (s : Shared) (H : Hp) (vs : List V) (Q : VK) (E : XK), Room k (A.deeper (envOfC qual (defScope st) s.heap.objs.size f cdv)) → sp vs H Q E →
      ∃ t, PSs (cxOf CX0 P w K mg base N qual (defScope st) f cdv A outer s H E).nox (defBody st) t ∧ t { nx := fun _ H' => Q .non H', rt := Q } (start N vs) H) : MDef P w K mg base CX0 (k + 1) C m ps [] sp := by
  obtain ⟨f, fd, G, M, b⟩ := F.ex
  exact ⟨f, fd, [], G.ok S len (fun cdv A outer s H vs Q E hr h => hbody f cdv A outer s H vs Q E hr h), M, b, .nil⟩
theorem MAtD.ok (F : MAtD K C m qual st ps ds) (S : FnScope N ps (defScope st)) (len : ∀ vs H Q E, sp vs H Q E → vs.length = ps.length)
    (hbody : ∀ (f : Addr) (cdv : Value) (A : Around) (outer : List Env) (s : Shared) (H : Hp) (vs : List V) (Q : VK) (E : XK), Room k (A.deeper (envOfC qual (defScope st) s.heap.objs.size f cdv)) → sp vs H Q E →
      ∃ t, PSs (cxOf CX0 P w K mg base N qual (defScope st) f cdv A outer s H E).nox (defBody st) t ∧ t { nx := fun _ H' => Q .non H', rt := Q } (start N vs) H) : MDef P w K mg base CX0 (k + 1) C m ps ds sp := by
  obtain ⟨f, fd, us, G, M, b, v⟩ := F.ex
  refine ⟨f, fd, us, G.ok S len (fun cdv A outer s H vs Q E hr h => ?_), M, b, v⟩
  obtain ⟨t, h1, h2⟩ := hbody f cdv A outer s H vs Q E hr h
  exact ⟨t, h1.nox, h2⟩
end
theorem lk_hit {a : Str} {b : V} {es : List (Str × V)} : List.lookup a ((a, b) :: es) = some b := by
  unfold List.lookup
  rw [beq_self_eq_true]
theorem lk_miss {a k : Str} {b : V} {es : List (Str × V)} (h : (a == k) = false) : List.lookup a ((k, b) :: es) = List.lookup a es := by
  show (match a == k with | true => some b | false => List.lookup a es) = _
  rw [h]
theorem put_hit {f : Str} {v x : V} {r : List (Str × V)} : putF f v ((f, x) :: r) = (f, v) :: r := by
  show (if f = f then _ else _) = _
  rw [if_pos rfl]
theorem put_miss {f g : Str} {v x : V} {r : List (Str × V)} (h : (g == f) = false) : putF f v ((g, x) :: r) = (g, x) :: putF f v r := by
  have h1 : ¬ g = f := fun z => by
    rw [z, beq_self_eq_true] at h
    cases h
  show (if g = f then _ else _) = _
  rw [if_neg h1]
theorem put_nil {f : Str} {v : V} : putF f v [] = [(f, v)] := rfl
theorem put_lt {f : Str} {v : V} {k m : Nat} : ∀ {fs : List (Str × V)}, fs.length + (k + 1) < m → (putF f v fs).length + k < m
  | [], h => by
    show 1 + k < m
    have : 0 + (k + 1) < m := h
    omega
  | (g, x) :: r, h => by
    rw [List.length_cons] at h
    show (if g = f then (g, v) :: r else (g, x) :: putF f v r).length + k < m
    by_cases c : g = f
    · rw [if_pos c, List.length_cons]
      omega
    · rw [if_neg c, List.length_cons]
      have := put_lt (f := f) (v := v) (k := k + 1) (m := m) (fs := r) (by omega)
      omega
theorem put_lt0 {f : Str} {v : V} {m : Nat} {fs : List (Str × V)} (h : fs.length + 1 < m) : (putF f v fs).length < m := put_lt (k := 0) h
theorem ins_ne {H : Hp} {a b C D dx dy : Addr} {fs gs : List (Str × V)} (h : H a = some (.ins C dx fs)) (h' : H b = some (.ins D dy gs)) (n : fs.length ≠ gs.length) : a ≠ b := fun z => by
  rw [z, h'] at h
  injection h with h
  injection h with h1 h2 h3
  exact n (by rw [h3])
/-- all that stood but a is as it was -/
def SameX (a : Addr) (H H' : Hp) : Prop := ∀ b o, b ≠ a → H b = some o → H' b = some o
theorem SameX.refl (a : Addr) (H : Hp) : SameX a H H := fun _ _ _ h => h
theorem SameX.trans {a : Addr} {H H1 H2 : Hp} (x : SameX a H H1) (y : SameX a H1 H2) : SameX a H H2 := fun b o n h => y b o n (x b o n h)
theorem SameX.of {a : Addr} {H H' : Hp} (s : Same H H') : SameX a H H' := fun b o _ h => s b o h
theorem SameX.upd {a : Addr} {H : Hp} {o : HO} : SameX a H (L2.upd H a o) := fun b u n h => by rw [upd_ne n]; exact h
theorem SameX.at_ {a : Addr} {H H' : Hp} {o : HO} (x : SameX a H H') : SameX a H (L2.upd H' a o) := fun b u n h => by rw [upd_ne n]; exact x b u n h
end DP
namespace DP
open PySem PySem.Spec PyProof.Rows L2
def topS (i : Nat) : Stmt := PySem.Challenge.pw_downpass_k71_worths_of_entries.main.body.getD i (.Pass ⟨0, 0, 0, 0⟩)
end DP
namespace DP
open PySem PySem.Spec PyProof.Rows L2
abbrev s_lines_of : Stmt := topS 12
theorem sc_lines_of : FnScope ["text", "rows", "last", "number", "row"] ["text"] (defScope s_lines_of) := ⟨rfl, rfl, rfl, by decide +kernel, rfl, by decide +kernel, by decide +kernel⟩
abbrev s_is_name : Stmt := topS 13
theorem sc_is_name : FnScope ["word", "letter"] ["word"] (defScope s_is_name) := ⟨rfl, rfl, rfl, by decide +kernel, rfl, by decide +kernel, by decide +kernel⟩
abbrev s_is_number : Stmt := topS 14
theorem sc_is_number : FnScope ["word", "letter"] ["word"] (defScope s_is_number) := ⟨rfl, rfl, rfl, by decide +kernel, rfl, by decide +kernel, by decide +kernel⟩
abbrev s_Line___init__ : Stmt := inClass (topS 15) 0
theorem sc_Line___init__ : FnScope ["self", "number", "row"] ["self", "number", "row"] (defScope s_Line___init__) := ⟨rfl, rfl, rfl, by decide +kernel, rfl, by decide +kernel, by decide +kernel⟩
abbrev s_Line_has_more : Stmt := inClass (topS 15) 2
theorem sc_Line_has_more : FnScope ["self"] ["self"] (defScope s_Line_has_more) := ⟨rfl, rfl, rfl, by decide +kernel, rfl, by decide +kernel, by decide +kernel⟩
abbrev s_Line_due : Stmt := inClass (topS 15) 3
theorem sc_Line_due : FnScope ["self", "word"] ["self"] (defScope s_Line_due) := ⟨rfl, rfl, rfl, by decide +kernel, rfl, by decide +kernel, by decide +kernel⟩
abbrev s_Line_step : Stmt := inClass (topS 15) 4
theorem sc_Line_step : FnScope ["self"] ["self"] (defScope s_Line_step) := ⟨rfl, rfl, rfl, by decide +kernel, rfl, by decide +kernel, by decide +kernel⟩
abbrev s_Line_read_choice : Stmt := inClass (topS 15) 5
theorem sc_Line_read_choice : FnScope ["self", "choices", "word"] ["self", "choices"] (defScope s_Line_read_choice) := ⟨rfl, rfl, rfl, by decide +kernel, rfl, by decide +kernel, by decide +kernel⟩
abbrev s_Line_read_number : Stmt := inClass (topS 15) 6
theorem sc_Line_read_number : FnScope ["self", "least", "most", "word", "number"] ["self", "least", "most"] (defScope s_Line_read_number) := ⟨rfl, rfl, rfl, by decide +kernel, rfl, by decide +kernel, by decide +kernel⟩
abbrev s_Line_read_field : Stmt := inClass (topS 15) 7
theorem sc_Line_read_field : FnScope ["self", "word", "least", "most"] ["self", "word", "least", "most"] (defScope s_Line_read_field) := ⟨rfl, rfl, rfl, by decide +kernel, rfl, by decide +kernel, by decide +kernel⟩
abbrev s_Line_due_name : Stmt := inClass (topS 15) 8
theorem sc_Line_due_name : FnScope ["self", "word"] ["self"] (defScope s_Line_due_name) := ⟨rfl, rfl, rfl, by decide +kernel, rfl, by decide +kernel, by decide +kernel⟩
abbrev s_Line_read_new_name : Stmt := inClass (topS 15) 9
theorem sc_Line_read_new_name : FnScope ["self", "used", "word"] ["self", "used"] (defScope s_Line_read_new_name) := ⟨rfl, rfl, rfl, by decide +kernel, rfl, by decide +kernel, by decide +kernel⟩
abbrev s_Line_read_known_name : Stmt := inClass (topS 15) 10
theorem sc_Line_read_known_name : FnScope ["self", "names", "least", "word", "number"] ["self", "names", "least"] (defScope s_Line_read_known_name) := ⟨rfl, rfl, rfl, by decide +kernel, rfl, by decide +kernel, by decide +kernel⟩
abbrev s_Line_finish : Stmt := inClass (topS 15) 11
theorem sc_Line_finish : FnScope ["self"] ["self"] (defScope s_Line_finish) := ⟨rfl, rfl, rfl, by decide +kernel, rfl, by decide +kernel, by decide +kernel⟩
def lnF (n : Int) (wl : Addr) (r : Nat) (c : Int) : List (Str × V) := [("number", .int n), ("words", .ref wl), ("read", .int r), ("column", .int c)]
theorem lnF_words {n : Int} {wl : Addr} {r : Nat} {c : Int} : (lnF n wl r c).lookup ("words" : Str) = some (.ref wl) := by unfold lnF; exact (lk_miss (by decide +kernel)).trans lk_hit
theorem lnF_read {n : Int} {wl : Addr} {r : Nat} {c : Int} : (lnF n wl r c).lookup ("read" : Str) = some (.int r) := by
  unfold lnF; exact (lk_miss (by decide +kernel)).trans ((lk_miss (by decide +kernel)).trans lk_hit)
theorem lnF_column {n : Int} {wl : Addr} {r : Nat} {c : Int} : (lnF n wl r c).lookup ("column" : Str) = some (.int c) := by
  unfold lnF; exact (lk_miss (by decide +kernel)).trans ((lk_miss (by decide +kernel)).trans ((lk_miss (by decide +kernel)).trans lk_hit))
theorem lnF_no {n : Int} {wl : Addr} {r : Nat} {c : Int} {m : Str} (h1 : (m == ("number" : Str)) = false) (h2 : (m == ("words" : Str)) = false) (h3 : (m == ("read" : Str)) = false) (h4 : (m == ("column" : Str)) = false) : (lnF n wl r c).lookup m = none := by
  unfold lnF
  exact (lk_miss h1).trans ((lk_miss h2).trans ((lk_miss h3).trans ((lk_miss h4).trans rfl)))
theorem lnF_put_column {n : Int} {wl : Addr} {r : Nat} {c d : Int} : putF "column" (.int d) (lnF n wl r c) = lnF n wl r d := by
  unfold lnF
  rw [put_miss (by decide +kernel), put_miss (by decide +kernel), put_miss (by decide +kernel), put_hit]
theorem lnF_put_read {n : Int} {wl : Addr} {r q : Nat} {c : Int} : putF "read" (.int q) (lnF n wl r c) = lnF n wl q c := by
  unfold lnF
  rw [put_miss (by decide +kernel), put_miss (by decide +kernel), put_hit]
/-- the line at a, its words ws, r of them passed -/
structure LnAt (C : Addr) (H : Hp) (a : Addr) (ws : List Str) (r : Nat) : Prop where
  ex : ∃ dx n wl c, H a = some (.ins C dx (lnF n wl r c)) ∧ H wl = some (.lst (ws.map V.str))
  ok : ∀ w ∈ ws, WdOk w
theorem LnAt.same {C : Addr} {H H' : Hp} {a : Addr} {ws : List Str} {r : Nat} (h : LnAt C H a ws r) (s : Same H H') : LnAt C H' a ws r := by
  obtain ⟨dx, n, wl, c, h1, h2⟩ := h.ex
  exact ⟨⟨dx, n, wl, c, s _ _ h1, s _ _ h2⟩, h.ok⟩
theorem map_at {ws : List Str} {i : Nat} {w : Str} (h : ws[i]? = some w) : atI (ws.map V.str) (i : Int) = some (.str w) := atI_nat (by rw [List.getElem?_map, h]; rfl)
theorem wd_ne {w : Str} (h : WdOk w) : ¬ w = Str.ofString "" := fun z => h.1 (by rw [z]; decide +kernel)
theorem wd_len {w : Str} (h : WdOk w) : w.length ≤ 16 := by rw [TL.len_tl]; exact h.2.2.2
/-- what the text tells of the class Line and its module -/
structure TxtL (K : PySem.W.Frag) (mg : Str → Option Value) (C : Addr) : Prop where
  B : Bt mg
  c_Line : ClsAt K mg "Line" C
  n_number : NoAttr K C "number"
  n_words : NoAttr K C "words"
  n_read : NoAttr K C "read"
  n_column : NoAttr K C "column"
  g_LETTERS : ∃ t, mg "LETTERS" = some (.str "abcdefghijklmnopqrstuvwxyzABCDEFGHIJKLMNOPQRSTUVWXYZ" t)
  g_DIGITS : ∃ t, mg "DIGITS" = some (.str "0123456789" t)
  g_MOST_NAME : ∃ t, mg "MOST_NAME" = some (.int 15 t)
  g_MOST_DIGITS : ∃ t, mg "MOST_DIGITS" = some (.int 7 t)
section
variable {P : Program} {w : World} {K : PySem.W.Frag} {mg : Str → Option Value} {base : Heap} {C : Addr}
def spLnInit (C : Addr) : Sp := fun vs H Q _ => ∃ (x dx : Addr) (n : Int) (ws : List Str), vs = [.ref x, .int n, .str (row ws)] ∧ H x = some (.ins C dx []) ∧ ws ≠ [] ∧ (∀ w ∈ ws, WdOk w) ∧ ws.length ≤ 2000 ∧
  ∀ H', SameX x H H' → LnAt C H' x ws 0 → Q .non H'
theorem d_Line_init (T : TxtL K mg C) (A : MAt K C "__init__" "Line.__init__" s_Line___init__ ["self", "number", "row"]) : MDef P w K mg base CX0 1 C "__init__" ["self", "number", "row"] [] (spLnInit C) := by
  refine A.ok sc_Line___init__ (fun vs H Q E h => ?_) (fun f cdv A outer s H vs Q E hr h => ?_)
  · obtain ⟨x, dx, n, ws, rfl, _⟩ := h
    rfl
  obtain ⟨x, dx, n, ws, rfl, hx, hn, hok, hlen, q⟩ := h
  refine ⟨_, pss_cons (ps_fld (pv 0) (pv 1) rfl)
  (pss_cons (ps_fld (pv 0) (pe_split (pv 2) pe_str) rfl)
  (pss_cons (ps_fld (pv 0) pe_int rfl)
  (pss_one (ps_fld (pv 0) pe_int rfl))))
    , ?_⟩
  have hl := row_len hok
  refine ⟨_, rfl, _, rfl, x, C, dx, _, rfl, hx, T.c_Line.cl, T.n_number, (by show 0 < 1000; decide), ?_⟩
  refine ⟨_, rfl, ⟨_, rfl⟩, _, sp, rfl, rfl, by decide +kernel, Nat.le_trans (Nat.add_le_add_right (Nat.le_trans hl (Nat.mul_le_mul_right 17 hlen)) 2) (by decide), fun wl hwl => ?_⟩
  have exw : x ≠ wl := fun z => by
    rw [← z, upd_same] at hwl
    cases hwl
  refine ⟨_, rfl, x, C, dx, _, rfl, (upd_ne exw).trans upd_same, T.c_Line.cl, T.n_words, (by repeat (first | refine put_lt0 ?_ | refine put_lt ?_ | (show _ < _; decide))), ?_⟩
  refine ⟨_, rfl, x, C, dx, _, rfl, upd_same, T.c_Line.cl, T.n_read, (by repeat (first | refine put_lt0 ?_ | refine put_lt ?_ | (show _ < _; decide))), ?_⟩
  refine ⟨_, rfl, x, C, dx, _, rfl, upd_same, T.c_Line.cl, T.n_column, (by repeat (first | refine put_lt0 ?_ | refine put_lt ?_ | (show _ < _; decide))), ?_⟩
  have hwl0 : H wl = none := by
    rw [upd_ne exw.symm] at hwl
    exact hwl
  refine q _ (fun b o nb hb => ?_) ⟨⟨dx, n, wl, 1, ?_, ?_⟩, hok⟩
  · rw [upd_ne nb, upd_ne nb, upd_ne nb, upd_ne (ne_of_none hb hwl0), upd_ne nb]
    exact hb
  · rw [upd_same]
    unfold lnF
    repeat (first | rw [put_nil] | rw [put_miss (by decide +kernel)])
    rfl
  · rw [upd_ne exw.symm, upd_ne exw.symm, upd_ne exw.symm, upd_same, row_split hn hok]
def spHasMore (C : Addr) : Sp := fun vs H Q _ => ∃ (a : Addr) (ws : List Str) (r : Nat), vs = [.ref a] ∧ LnAt C H a ws r ∧ Q (.bl (decide (r < ws.length))) H
theorem d_has_more (T : TxtL K mg C) (A : MAt K C "has_more" "Line.has_more" s_Line_has_more ["self"]) : MDef P w K mg base CX0 1 C "has_more" ["self"] [] (spHasMore C) := by
  have B := T.B
  refine A.ok sc_Line_has_more (fun vs H Q E h => ?_) (fun f cdv A outer s H vs Q E hr h => ?_)
  · obtain ⟨a, ws, r, rfl, _⟩ := h
    rfl
  obtain ⟨a, ws, r, rfl, hL, q⟩ := h
  obtain ⟨dx, n, wl, c, h1, h2⟩ := hL.ex
  refine ⟨_, pss_one (ps_ret (pe_cmpR op_lt (pe_fld (pv 0) rfl) (pe_callB (call_len_seq) (by rfl) B.len (by decide +kernel) (pa_cons (pe_fld (pv 0) rfl) pa_nil)) (nomark _)))
    , ?_⟩
  refine ⟨_, rfl, a, C, dx, _, _, rfl, h1, T.c_Line.cl, T.n_read, lnF_read, _, rfl, a, C, dx, _, _, rfl, h1, T.c_Line.cl, T.n_words, lnF_words, wl, _, rfl, .inl (SqL.of h2), _, _, rfl, rfl, ?_⟩
  have e : decide ((r : Int) < (((ws.map V.str).length : Nat) : Int)) = decide (r < ws.length) := by
    rw [List.length_map]
    exact decide_eq_decide.mpr (by omega)
  show Q (.bl (decide ((r : Int) < (((ws.map V.str).length : Nat) : Int)))) H
  rw [e]
  exact q
def spDue (C : Addr) : Sp := fun vs H Q _ => ∃ (a : Addr) (ws : List Str) (r : Nat) (u : Str), vs = [.ref a] ∧ LnAt C H a ws r ∧ ws[r]? = some u ∧ Q (.str u) H
theorem d_due (T : TxtL K mg C) (D_Line_has_more : MDef P w K mg base CX0 1 C "has_more" ["self"] [] (spHasMore C)) (A : MAt K C "due" "Line.due" s_Line_due ["self"]) : MDef P w K mg base CX0 2 C "due" ["self"] [] (spDue C) := by
  have B := T.B
  refine A.ok sc_Line_due (fun vs H Q E h => ?_) (fun f cdv A outer s H vs Q E hr h => ?_)
  · obtain ⟨a, ws, r, u, rfl, _⟩ := h
    rfl
  obtain ⟨a, ws, r, u, rfl, hL, hu, q⟩ := h
  obtain ⟨dx, n, wl, c, h1, h2⟩ := hL.ex
  have hr' : r < ws.length := (List.getElem?_eq_some_iff.mp hu).1
  refine ⟨_, pss_cons (ps_if (pt_not (pt_val (pe_m0 D_Line_has_more T.c_Line.cl (hr.mono (by omega)) pass0 (pv 0))))
      (pss_one (ps_never))
      (pss_nil))
  (pss_cons (ps_set (i := 1) sc_Line_due.nd rfl (Or.inl rfl) (pe_ix ix_list (pe_fld (pv 0) rfl) (pe_fld (pv 0) rfl) (fun _ _ => rfl)))
  (pss_cons (ps_if (pt_cmpR op_eq (pv 1) pe_str (nomark _))
      (pss_one (ps_never))
      (pss_nil))
  (pss_one (ps_ret (pv 1)))))
    , ?_⟩
  refine ⟨_, rfl, a, dx, _, rfl, h1, lnF_no (by decide +kernel) (by decide +kernel) (by decide +kernel) (by decide +kernel), a, ws, r, rfl, hL, _, rfl, iteF' (by rw [decide_eq_true hr']; rfl) ?_⟩
  refine ⟨_, rfl, a, C, dx, _, _, rfl, h1, T.c_Line.cl, T.n_words, lnF_words, _, rfl, a, C, dx, _, _, rfl, h1, T.c_Line.cl, T.n_read, lnF_read, wl, _, _, _, rfl, rfl, SqL.of h2, map_at hu, ?_⟩
  refine ⟨_, rfl, rfl, _, rfl, iteF' (decide_eq_false fun z => wd_ne (hL.ok u (List.mem_of_getElem? hu)) (V.str.inj z)) ?_⟩
  exact ⟨_, rfl, q⟩
def spStep (C : Addr) : Sp := fun vs H Q _ => ∃ (a : Addr) (ws : List Str) (r : Nat), vs = [.ref a] ∧ LnAt C H a ws r ∧ r < ws.length ∧ ∀ H', SameX a H H' → LnAt C H' a ws (r + 1) → Q .non H'
theorem d_step (T : TxtL K mg C) (A : MAt K C "step" "Line.step" s_Line_step ["self"]) : MDef P w K mg base CX0 1 C "step" ["self"] [] (spStep C) := by
  have B := T.B
  refine A.ok sc_Line_step (fun vs H Q E h => ?_) (fun f cdv A outer s H vs Q E hr h => ?_)
  · obtain ⟨a, ws, r, rfl, _⟩ := h
    rfl
  obtain ⟨a, ws, r, rfl, hL, hr', q⟩ := h
  obtain ⟨dx, n, wl, c, h1, h2⟩ := hL.ex
  have hu : ws[r]? = some ws[r] := List.getElem?_eq_getElem hr'
  have ea : wl ≠ a := ne_of h2 h1 (fun z => nomatch z)
  have hw := wd_len (hL.ok _ (List.getElem_mem hr'))
  refine ⟨_, pss_cons (ps_fldaug (pv 0) (pe_op op_add (pe_callB (call_len_str) (by rfl) B.len (by decide +kernel) (pa_cons (pe_ix ix_list (pe_fld (pv 0) rfl) (pe_fld (pv 0) rfl) (fun _ _ => rfl)) pa_nil)) pe_int) in_add)
  (pss_one (ps_fldaug (pv 0) pe_int in_add))
    , ?_⟩
  refine ⟨_, rfl, a, C, dx, _, _, rfl, h1, T.c_Line.cl, T.n_column, lnF_column, _, rfl, a, C, dx, _, _, rfl, h1, T.c_Line.cl, T.n_words, lnF_words, _, rfl, a, C, dx, _, _, rfl, h1, T.c_Line.cl, T.n_read, lnF_read, wl, _, _, _, rfl, rfl, SqL.of h2, map_at hu, ?_⟩
  refine ⟨_, rfl, Nat.le_trans hw (by decide), _, _, rfl, rfl, _, _, rfl, rfl, dx, _, h1, (by show 4 < 1000; decide), ?_⟩
  rw [lnF_put_column]
  refine ⟨_, rfl, a, C, dx, _, _, rfl, upd_same, T.c_Line.cl, T.n_read, lnF_read, _, _, rfl, rfl, dx, _, upd_same, (by show 4 < 1000; decide), ?_⟩
  rw [show ((r : Int) + 1) = ((r + 1 : Nat) : Int) by omega, lnF_put_read, upd_upd]
  exact q _ SameX.upd ⟨⟨dx, n, wl, _, upd_same, by rw [upd_ne ea]; exact h2⟩, hL.ok⟩
def spChoice (K : PySem.W.Frag) (C : Addr) : Sp := fun vs H Q _ => ∃ (a : Addr) (ws : List Str) (r : Nat) (t : Addr) (cs : List Str) (u : Str), vs = [.ref a, .ref t] ∧ LnAt C H a ws r ∧ SqT K H t (cs.map V.str) ∧ ws[r]? = some u ∧ u ∈ cs ∧
  ∀ H', SameX a H H' → LnAt C H' a ws (r + 1) → Q (.str u) H'
theorem inV_str {u : Str} {cs : List Str} : inV (.str u) (cs.map V.str) = decide (u ∈ cs) := by
  unfold inV
  rw [List.any_map]
  induction cs with
  | nil => rfl
  | cons c r ih =>
    rw [List.any_cons, ih]
    show (decide (c = u) || decide (u ∈ r)) = decide (u ∈ c :: r)
    rw [← Bool.decide_or]
    refine decide_eq_decide.mpr ⟨fun z => ?_, fun z => ?_⟩
    · rcases z with z | z
      · rw [z]; exact List.mem_cons_self
      · exact List.mem_cons_of_mem _ z
    · rcases List.mem_cons.mp z with z | z
      · exact .inl z.symm
      · exact .inr z
theorem flat_strs {cs : List Str} : (cs.map V.str).all flatV = true := by
  rw [List.all_map]
  exact List.all_eq_true.mpr fun _ _ => rfl
theorem d_read_choice (T : TxtL K mg C) (D_Line_due : MDef P w K mg base CX0 2 C "due" ["self"] [] (spDue C)) (D_Line_step : MDef P w K mg base CX0 1 C "step" ["self"] [] (spStep C))
    (A : MAt K C "read_choice" "Line.read_choice" s_Line_read_choice ["self", "choices"]) : MDef P w K mg base CX0 3 C "read_choice" ["self", "choices"] [] (spChoice K C) := by
  have B := T.B
  refine A.ok sc_Line_read_choice (fun vs H Q E h => ?_) (fun f cdv A outer s H vs Q E hr h => ?_)
  · obtain ⟨a, ws, r, t, cs, u, rfl, _⟩ := h
    rfl
  obtain ⟨a, ws, r, t, cs, u, rfl, hL, hT, hu, hc, q⟩ := h
  obtain ⟨dx, n, wl, c, h1, h2⟩ := hL.ex
  have hr' : r < ws.length := (List.getElem?_eq_some_iff.mp hu).1
  have no : ∀ {m : Str}, (m == ("number" : Str)) = false → (m == ("words" : Str)) = false → (m == ("read" : Str)) = false → (m == ("column" : Str)) = false → (lnF n wl r c).lookup m = none := fun z1 z2 z3 z4 => lnF_no z1 z2 z3 z4
  refine ⟨_, pss_cons (ps_set (i := 2) sc_Line_read_choice.nd rfl (Or.inl rfl) (pe_m0 D_Line_due T.c_Line.cl (hr.mono (by omega)) pass0 (pv 0)))
  (pss_cons (ps_if (pt_cmpR op_notIn_seq (pv 2) (pv 1) (by rfl))
      (pss_one (ps_never))
      (pss_nil))
  (pss_cons (ps_expr (pe_m0 D_Line_step T.c_Line.cl (hr.mono (by omega)) pass0 (pv 0)))
  (pss_one (ps_ret (pv 2)))))
    , ?_⟩
  refine ⟨_, rfl, a, dx, _, rfl, h1, no (by decide +kernel) (by decide +kernel) (by decide +kernel) (by decide +kernel), a, ws, r, u, rfl, hL, hu, ?_⟩
  refine ⟨_, rfl, _, rfl, t, _, rfl, .inr hT, rfl, flat_strs, _, rfl, iteF' (by rw [inV_str, decide_eq_true hc]; rfl) ?_⟩
  refine ⟨_, rfl, a, dx, _, rfl, h1, no (by decide +kernel) (by decide +kernel) (by decide +kernel) (by decide +kernel), a, ws, r, rfl, hL, hr', fun H' s' L' => ?_⟩
  exact ⟨_, rfl, q H' s' L'⟩
/-- a number's text -/
theorem dig_in {c : Nat} (h : 48 ≤ c ∧ c ≤ 57) : c ∈ ("0123456789" : Str).cps.toList := by
  have all : ∀ d, d < 58 → 48 ≤ d → d ∈ ("0123456789" : Str).cps.toList := by decide +kernel
  exact all c (by omega) h.1
def spIsNum : Sp := fun vs H Q _ => ∃ n : Int, vs = [.str (num n)] ∧ 0 ≤ n ∧ n < 10000000 ∧ ∀ H', Same H H' → Q (.bl true) H'
theorem str1_inj {a b : Nat} (h : (⟨#[a]⟩ : Str) = ⟨#[b]⟩) : a = b := by
  injection h with h
  injection h with h
  injection h
theorem d_is_number (T : TxtL K mg C) (A : At K mg "is_number" s_is_number ["word"]) : DefOk P w K mg base CX0 1 "is_number" ["word"] spIsNum := by
  have B := T.B
  refine A.ok sc_is_number (fun vs H Q E h => ?_) (fun f cdv A outer s H vs Q E hr h => ?_)
  · obtain ⟨n, rfl, _⟩ := h
    rfl
  obtain ⟨n, rfl, h0, h1, q⟩ := h
  refine ⟨_, pss_cons (ps_if (PW.pt (pw_or (pt_cmpR op_gt (pe_callB (call_len_str) (by rfl) B.len (by decide +kernel) (pa_cons (pv 0) pa_nil)) (pe_gi T.g_MOST_DIGITS) (nomark _)) (pw_or1 (PW.pt (pw_and (pt_cmpR op_eq (pe_ix ix_str (pv 0) pe_int (fun _ _ => rfl)) pe_str (nomark _)) (pw_and1 (pt_cmpR op_ne (pv 0) pe_str (nomark _))))))))
      (pss_one (ps_ret pe_bl))
      (pss_nil))
  (pss_one (ps_ret (pe_callB (cr_all rfl) (by rfl) B.all (by decide +kernel) (pa_cons (pe_lc (own := [("letter", 1)])  rfl sc_is_number.nd (pi_str (pv 0)) (blkOk_by (own := [("letter", 1)]) (N := ["word", "letter"]) (sc := defScope s_is_number) (by decide +kernel)) (fun _ _ _ _ _ => pg_name (i := 1) sc_is_number.nd rfl (Or.inl rfl)) (fun _ _ _ _ _ => pts_nil) (fun _ _ _ _ _ => (pe_cmpR op_in_sign (pv 1) (pe_gs T.g_DIGITS) (by rfl)))) pa_nil))))
    , ?_⟩
  have htl := num_nat h0
  have hlen : (num n).length ≤ 7 := by
    rw [TL.len_tl, show TL.tl (num n) = tl (num n) from rfl, htl]
    exact numL_len7 (by omega)
  cases hq : TL.numL n.toNat with
  | nil => exact absurd hq (TL.numL_ne _)
  | cons d ds =>
  have hd : atI (num n).cps.toList 0 = some d := by
    show atI (tl (num n)) 0 = some d
    rw [htl, hq]
    exact atI_nat (j := 0) rfl
  have all : ∀ c ∈ tl (num n), 48 ≤ c ∧ c ≤ 57 := fun c hc => by
    rw [htl] at hc
    exact TL.numL_digits _ c hc
  refine ⟨_, rfl, _, rfl, Nat.le_trans hlen (by decide), _, _, rfl, rfl, _, rfl, iteF' (decide_eq_false (by omega)) ?_⟩
  refine ⟨_, rfl, _, _, d, rfl, rfl, Nat.le_trans hlen (by decide), hd, rfl, _, rfl, ite2 (fun c => ?_) (fun c => ?_)⟩
  · -- a leading 0: it is 0
    have e0 : (⟨#[d]⟩ : Str) = Str.ofString "0" := V.str.inj (of_decide_eq_true c)
    have e1 : (Str.ofString "0" : Str) = ⟨#[48]⟩ := by decide +kernel
    have ed : d = 48 := str1_inj (e0.trans e1)
    have en : n.toNat = 0 := numL_head ds (by rw [hq, ed])
    have en2 : n = 0 := by omega
    subst en2
    refine ⟨_, rfl, rfl, _, rfl, iteF' (by rw [decide_eq_true (show (V.str (num 0) = V.str (Str.ofString "0")) from by decide +kernel)]; rfl) ?_⟩
    refine ⟨_, rfl, _, rfl, fun D hD => lc_it (walk_str) (fun i H' => Same H H' ∧ H' D = some (.lst ((List.replicate i true).map V.bl))) ⟨same_new hD _, upd_same⟩ (fun _ _ _ _ => True.intro) (fun i x H1 H2 hi hI hy => ?_) (fun H1 hI => ?_)⟩
    · obtain ⟨rfl, ch, hch, rfl⟩ := hy
      obtain ⟨hs, hDD⟩ := hI
      have hcm : ch ∈ tl (num 0) := by
        have : (num 0).cps.toList[i]? = some ch := by rw [Array.getElem?_toList]; exact hch
        exact List.mem_of_getElem? this
      refine ⟨rfl, _, rfl, ch, _, rfl, rfl, _, hDD, ?_, same_at hD hs _, ?_⟩
      · rw [List.length_map, List.length_replicate]
        have : (num 0).cps.size ≤ 7 := hlen
        exact small1000 (by omega)
      · rw [upd_same, List.replicate_succ', List.map_append, decide_eq_true (dig_in (all ch hcm))]
        rfl
    · obtain ⟨hs, hDD⟩ := hI
      refine ⟨D, _, rfl, SqL.of hDD, ?_⟩
      rw [show (List.replicate (num 0).cps.size true).all id = true from List.all_eq_true.mpr fun b hb => by rw [List.eq_of_mem_replicate hb]; rfl]
      exact q H1 hs
  · refine iteF ?_
    refine ⟨_, rfl, _, rfl, fun D hD => lc_it (walk_str) (fun i H' => Same H H' ∧ H' D = some (.lst ((List.replicate i true).map V.bl))) ⟨same_new hD _, upd_same⟩ (fun _ _ _ _ => True.intro) (fun i x H1 H2 hi hI hy => ?_) (fun H1 hI => ?_)⟩
    · obtain ⟨rfl, ch, hch, rfl⟩ := hy
      obtain ⟨hs, hDD⟩ := hI
      have hcm : ch ∈ tl (num n) := by
        have : (num n).cps.toList[i]? = some ch := by rw [Array.getElem?_toList]; exact hch
        exact List.mem_of_getElem? this
      refine ⟨rfl, _, rfl, ch, _, rfl, rfl, _, hDD, ?_, same_at hD hs _, ?_⟩
      · rw [List.length_map, List.length_replicate]
        have : (num n).cps.size ≤ 7 := hlen
        exact small1000 (by omega)
      · rw [upd_same, List.replicate_succ', List.map_append, decide_eq_true (dig_in (all ch hcm))]
        rfl
    · obtain ⟨hs, hDD⟩ := hI
      refine ⟨D, _, rfl, SqL.of hDD, ?_⟩
      rw [show (List.replicate (num n).cps.size true).all id = true from List.all_eq_true.mpr fun b hb => by rw [List.eq_of_mem_replicate hb]; rfl]
      exact q H1 hs
def spNumber (C : Addr) : Sp := fun vs H Q _ => ∃ (a : Addr) (ws : List Str) (r : Nat) (lo hi n : Int), vs = [.ref a, .int lo, .int hi] ∧ LnAt C H a ws r ∧ ws[r]? = some (num n) ∧ 0 ≤ n ∧ n < 10000000 ∧ lo ≤ n ∧ n ≤ hi ∧
  ∀ H', SameX a H H' → LnAt C H' a ws (r + 1) → Q (.int n) H'
theorem int_of_num {n : Int} (h0 : 0 ≤ n) (h1 : n < 10000000) : PySem.intText? (num n) = some n ∧ (num n).length ≤ 640 := by
  have e : n = ((n.toNat : Nat) : Int) := by omega
  have hl := numL_len7 (n := n.toNat) (by omega)
  refine ⟨?_, ?_⟩
  · have h := TL.int_num (n := n.toNat) (Nat.le_trans hl (by decide))
    rw [← e] at h
    exact h
  · rw [TL.len_tl, show TL.tl (num n) = tl (num n) from rfl, num_nat h0]
    omega
theorem d_read_number (T : TxtL K mg C) (D_is_number : DefOk P w K mg base CX0 1 "is_number" ["word"] spIsNum) (D_Line_due : MDef P w K mg base CX0 2 C "due" ["self"] [] (spDue C)) (D_Line_step : MDef P w K mg base CX0 1 C "step" ["self"] [] (spStep C))
    (A : MAt K C "read_number" "Line.read_number" s_Line_read_number ["self", "least", "most"]) : MDef P w K mg base CX0 3 C "read_number" ["self", "least", "most"] [] (spNumber C) := by
  have B := T.B
  refine A.ok sc_Line_read_number (fun vs H Q E h => ?_) (fun f cdv A outer s H vs Q E hr h => ?_)
  · obtain ⟨a, ws, r, lo, hi, n, rfl, _⟩ := h
    rfl
  obtain ⟨a, ws, r, lo, hi, n, rfl, hL, hu, h0, hm, hlo, hhi, q⟩ := h
  obtain ⟨dx, nn, wl, c, h1, h2⟩ := hL.ex
  have hr' : r < ws.length := (List.getElem?_eq_some_iff.mp hu).1
  refine ⟨_, pss_cons (ps_set (i := 3) sc_Line_read_number.nd rfl (Or.inl rfl) (pe_m0 D_Line_due T.c_Line.cl (hr.mono (by omega)) pass0 (pv 0)))
  (pss_cons (ps_if (pt_not (pt_val (pe_f D_is_number (hr.mono (by omega)) pass0 (pa_cons (pv 3) pa_nil))))
      (pss_one (ps_never))
      (pss_nil))
  (pss_cons (ps_set (i := 4) sc_Line_read_number.nd rfl (Or.inl rfl) (pe_callTy (call_int_str) (by rfl) B.int (by decide +kernel) (pa_cons (pv 3) pa_nil)))
  (pss_cons (ps_if (PW.pt (pw_or (pt_cmpR op_lt (pv 4) (pv 1) (nomark _)) (pw_or1 (pt_cmpR op_gt (pv 4) (pv 2) (nomark _)))))
      (pss_one (ps_never))
      (pss_nil))
  (pss_cons (ps_expr (pe_m0 D_Line_step T.c_Line.cl (hr.mono (by omega)) pass0 (pv 0)))
  (pss_one (ps_ret (pv 4)))))))
    , ?_⟩
  refine ⟨_, rfl, a, dx, _, rfl, h1, lnF_no (by decide +kernel) (by decide +kernel) (by decide +kernel) (by decide +kernel), a, ws, r, _, rfl, hL, hu, ?_⟩
  refine ⟨_, rfl, n, rfl, h0, hm, fun H1 s1 => ⟨_, rfl, iteF ?_⟩⟩
  obtain ⟨i1, i2⟩ := int_of_num h0 hm
  refine ⟨_, rfl, _, n, rfl, i1, i2, ?_⟩
  refine ⟨_, rfl, _, rfl, _, _, rfl, rfl, _, rfl, iteF' (decide_eq_false (by omega)) ?_⟩
  refine ⟨_, rfl, _, rfl, _, _, rfl, rfl, _, rfl, iteF' (decide_eq_false (by omega)) ?_⟩
  refine ⟨_, rfl, a, dx, _, rfl, s1 _ _ h1, lnF_no (by decide +kernel) (by decide +kernel) (by decide +kernel) (by decide +kernel), a, ws, r, rfl, hL.same s1, hr', fun H' s' L' => ?_⟩
  exact ⟨_, rfl, q H' ((SameX.of s1).trans s') L'⟩
def spField (C : Addr) : Sp := fun vs H Q _ => ∃ (a : Addr) (ws : List Str) (r : Nat) (u : Str) (lo hi n : Int), vs = [.ref a, .str u, .int lo, .int hi] ∧ LnAt C H a ws r ∧ ws[r]? = some u ∧ ws[r + 1]? = some (num n) ∧ 0 ≤ n ∧ n < 10000000 ∧ lo ≤ n ∧ n ≤ hi ∧
  ∀ H', SameX a H H' → LnAt C H' a ws (r + 2) → Q (.int n) H'
theorem d_read_field (T : TxtL K mg C) (D_Line_read_choice : MDef P w K mg base CX0 3 C "read_choice" ["self", "choices"] [] (spChoice K C)) (D_Line_read_number : MDef P w K mg base CX0 3 C "read_number" ["self", "least", "most"] [] (spNumber C))
    (A : MAt K C "read_field" "Line.read_field" s_Line_read_field ["self", "word", "least", "most"]) : MDef P w K mg base CX0 4 C "read_field" ["self", "word", "least", "most"] [] (spField C) := by
  have B := T.B
  refine A.ok sc_Line_read_field (fun vs H Q E h => ?_) (fun f cdv A outer s H vs Q E hr h => ?_)
  · obtain ⟨a, ws, r, u, lo, hi, n, rfl, _⟩ := h
    rfl
  obtain ⟨a, ws, r, u, lo, hi, n, rfl, hL, hu, hn, h0, hm, hlo, hhi, q⟩ := h
  obtain ⟨dx, nn, wl, c, h1, h2⟩ := hL.ex
  refine ⟨_, pss_cons (ps_expr (pe_m D_Line_read_choice T.c_Line.cl (hr.mono (by omega)) pass0 (pv 0) (pa_cons (pe_tup (pa_cons (pv 1) pa_nil)) pa_nil)))
  (pss_one (ps_ret (pe_m D_Line_read_number T.c_Line.cl (hr.mono (by omega)) pass0 (pv 0) (pa_cons (pv 2) (pa_cons (pv 3) pa_nil)))))
    , ?_⟩
  refine ⟨_, rfl, a, dx, _, rfl, h1, lnF_no (by decide +kernel) (by decide +kernel) (by decide +kernel) (by decide +kernel), _, rfl, (by show 1 ≤ sizeLine; decide), fun t ht => ?_⟩
  have s1 : Same H (upd H t (.tup [.str u])) := same_new ht _
  refine ⟨a, ws, r, t, [u], u, rfl, hL.same s1, SqT.of upd_same, hu, List.mem_cons_self, fun H2 s2 L2 => ?_⟩
  obtain ⟨dx2, n2, wl2, c2, g1, g2⟩ := L2.ex
  refine ⟨_, rfl, a, dx2, _, rfl, g1, lnF_no (by decide +kernel) (by decide +kernel) (by decide +kernel) (by decide +kernel), _, rfl, _, rfl, a, ws, r + 1, lo, hi, n, rfl, L2, hn, h0, hm, hlo, hhi, fun H3 s3 L3 => ?_⟩
  exact q H3 (((SameX.of s1).trans s2).trans s3) L3
/-- a name's text -/
theorem let_in {c : Nat} (h : isL c = true) : c ∈ ("abcdefghijklmnopqrstuvwxyzABCDEFGHIJKLMNOPQRSTUVWXYZ" : Str).cps.toList := by
  have all : ∀ d, d < 123 → isL d = true → d ∈ ("abcdefghijklmnopqrstuvwxyzABCDEFGHIJKLMNOPQRSTUVWXYZ" : Str).cps.toList := by decide +kernel
  exact all c (by have := isL_lt h; omega) h
def spIsName : Sp := fun vs H Q _ => ∃ u : Str, vs = [.str u] ∧ NameOk u ∧ ∀ H', Same H H' → Q (.bl true) H'
theorem d_is_name (T : TxtL K mg C) (A : At K mg "is_name" s_is_name ["word"]) : DefOk P w K mg base CX0 1 "is_name" ["word"] spIsName := by
  have B := T.B
  refine A.ok sc_is_name (fun vs H Q E h => ?_) (fun f cdv A outer s H vs Q E hr h => ?_)
  · obtain ⟨u, rfl, _⟩ := h
    rfl
  obtain ⟨u, rfl, hu, q⟩ := h
  refine ⟨_, pss_cons (ps_if (PW.pt (pw_or (pt_cmpR op_gt (pe_callB (call_len_str) (by rfl) B.len (by decide +kernel) (pa_cons (pv 0) pa_nil)) (pe_gi T.g_MOST_NAME) (nomark _)) (pw_or1 (pt_cmpR op_notIn_sign (pe_ix ix_str (pv 0) pe_int (fun _ _ => rfl)) (pe_gs T.g_LETTERS) (by rfl)))))
      (pss_one (ps_ret pe_bl))
      (pss_nil))
  (pss_one (ps_ret (pe_callB (cr_all rfl) (by rfl) B.all (by decide +kernel) (pa_cons (pe_lc (own := [("letter", 1)])  rfl sc_is_name.nd (pi_str (pv 0)) (blkOk_by (own := [("letter", 1)]) (N := ["word", "letter"]) (sc := defScope s_is_name) (by decide +kernel)) (fun _ _ _ _ _ => pg_name (i := 1) sc_is_name.nd rfl (Or.inl rfl)) (fun _ _ _ _ _ => pts_nil) (fun _ _ _ _ _ => (pe_or (pe_cmpR op_in_sign (pv 1) (pe_gs T.g_LETTERS) (by rfl)) (pe_one (pe_cmpR op_in_sign (pv 1) (pe_gs T.g_DIGITS) (by rfl)))))) pa_nil))))
    , ?_⟩
  have signs := hu.signs
  obtain ⟨d, ds, e, hd, _, hl⟩ := hu
  have hlen : u.length ≤ 15 := by
    rw [TL.len_tl, show TL.tl u = tl u from rfl, e, List.length_cons]
    omega
  have hat : atI u.cps.toList 0 = some d := by
    show atI (tl u) 0 = some d
    rw [e]
    exact atI_nat (j := 0) rfl
  refine ⟨_, rfl, _, rfl, Nat.le_trans hlen (by decide), _, _, rfl, rfl, _, rfl, iteF' (decide_eq_false (by omega)) ?_⟩
  refine ⟨_, rfl, _, _, d, rfl, rfl, Nat.le_trans hlen (by decide), hat, d, _, rfl, rfl, _, rfl, iteF' (by rw [decide_eq_true (let_in hd)]; rfl) ?_⟩
  refine ⟨_, rfl, _, rfl, fun D hD => lc_it (walk_str) (fun i H' => Same H H' ∧ H' D = some (.lst ((List.replicate i true).map V.bl))) ⟨same_new hD _, upd_same⟩ (fun _ _ _ _ => True.intro) (fun i x H1 H2 hi hI hy => ?_) (fun H1 hI => ?_)⟩
  · obtain ⟨rfl, ch, hch, rfl⟩ := hy
    obtain ⟨hs, hDD⟩ := hI
    have hcm : ch ∈ tl u := by
      have : u.cps.toList[i]? = some ch := by rw [Array.getElem?_toList]; exact hch
      exact List.mem_of_getElem? this
    have room : ((List.replicate i true).map V.bl).length < sizeLine := by
      rw [List.length_map, List.length_replicate]
      have : u.cps.size ≤ 15 := hlen
      exact small1000 (by omega)
    refine ⟨rfl, _, rfl, ch, _, rfl, rfl, _, rfl, ite2 (fun c => ?_) (fun c => ?_)⟩
    · refine ⟨_, hDD, room, same_at hD hs _, ?_⟩
      rw [upd_same, List.replicate_succ', List.map_append]
      rfl
    · have c' : ¬ ch ∈ ("abcdefghijklmnopqrstuvwxyzABCDEFGHIJKLMNOPQRSTUVWXYZ" : Str).cps.toList := fun z => c (decide_eq_true z)
      have hdg : isD ch = true := by
        rcases Bool.or_eq_true _ _ ▸ (signs ch hcm) with z | z
        · exact absurd (let_in z) c'
        · exact z
      refine ⟨_, rfl, ch, _, rfl, rfl, _, hDD, room, same_at hD hs _, ?_⟩
      rw [upd_same, List.replicate_succ', List.map_append, decide_eq_true (dig_in (isD_lt hdg))]
      rfl
  · obtain ⟨hs, hDD⟩ := hI
    refine ⟨D, _, rfl, SqL.of hDD, ?_⟩
    rw [show (List.replicate u.cps.size true).all id = true from List.all_eq_true.mpr fun b hb => by rw [List.eq_of_mem_replicate hb]; rfl]
    exact q H1 hs
def spDueName (C : Addr) : Sp := fun vs H Q _ => ∃ (a : Addr) (ws : List Str) (r : Nat) (u : Str), vs = [.ref a] ∧ LnAt C H a ws r ∧ ws[r]? = some u ∧ NameOk u ∧ ∀ H', Same H H' → Q (.str u) H'
theorem d_due_name (T : TxtL K mg C) (D_is_name : DefOk P w K mg base CX0 1 "is_name" ["word"] spIsName) (D_Line_due : MDef P w K mg base CX0 2 C "due" ["self"] [] (spDue C))
    (A : MAt K C "due_name" "Line.due_name" s_Line_due_name ["self"]) : MDef P w K mg base CX0 3 C "due_name" ["self"] [] (spDueName C) := by
  have B := T.B
  refine A.ok sc_Line_due_name (fun vs H Q E h => ?_) (fun f cdv A outer s H vs Q E hr h => ?_)
  · obtain ⟨a, ws, r, u, rfl, _⟩ := h
    rfl
  obtain ⟨a, ws, r, u, rfl, hL, hu, hn, q⟩ := h
  obtain ⟨dx, nn, wl, c, h1, h2⟩ := hL.ex
  refine ⟨_, pss_cons (ps_set (i := 1) sc_Line_due_name.nd rfl (Or.inl rfl) (pe_m0 D_Line_due T.c_Line.cl (hr.mono (by omega)) pass0 (pv 0)))
  (pss_cons (ps_if (pt_not (pt_val (pe_f D_is_name (hr.mono (by omega)) pass0 (pa_cons (pv 1) pa_nil))))
      (pss_one (ps_never))
      (pss_nil))
  (pss_one (ps_ret (pv 1))))
    , ?_⟩
  refine ⟨_, rfl, a, dx, _, rfl, h1, lnF_no (by decide +kernel) (by decide +kernel) (by decide +kernel) (by decide +kernel), a, ws, r, _, rfl, hL, hu, ?_⟩
  exact ⟨_, rfl, u, rfl, hn, fun H1 s1 => ⟨_, rfl, iteF ⟨_, rfl, q H1 s1⟩⟩⟩
def spNewName (K : PySem.W.Frag) (C : Addr) : Sp := fun vs H Q _ => ∃ (a : Addr) (ws : List Str) (r : Nat) (p : Addr) (ns : List Str) (u : Str), vs = [.ref a, .ref p] ∧ LnAt C H a ws r ∧ SqL K H p (ns.map V.str) ∧ ws[r]? = some u ∧ NameOk u ∧ u ∉ ns ∧
  ∀ H', SameX a H H' → LnAt C H' a ws (r + 1) → Q (.str u) H'
theorem d_read_new_name (T : TxtL K mg C) (D_Line_due_name : MDef P w K mg base CX0 3 C "due_name" ["self"] [] (spDueName C)) (D_Line_step : MDef P w K mg base CX0 1 C "step" ["self"] [] (spStep C))
    (A : MAt K C "read_new_name" "Line.read_new_name" s_Line_read_new_name ["self", "used"]) : MDef P w K mg base CX0 4 C "read_new_name" ["self", "used"] [] (spNewName K C) := by
  have B := T.B
  refine A.ok sc_Line_read_new_name (fun vs H Q E h => ?_) (fun f cdv A outer s H vs Q E hr h => ?_)
  · obtain ⟨a, ws, r, p, ns, u, rfl, _⟩ := h
    rfl
  obtain ⟨a, ws, r, p, ns, u, rfl, hL, hP, hu, hn, hno, q⟩ := h
  obtain ⟨dx, nn, wl, c, h1, h2⟩ := hL.ex
  have hr' : r < ws.length := (List.getElem?_eq_some_iff.mp hu).1
  refine ⟨_, pss_cons (ps_set (i := 2) sc_Line_read_new_name.nd rfl (Or.inl rfl) (pe_m0 D_Line_due_name T.c_Line.cl (hr.mono (by omega)) pass0 (pv 0)))
  (pss_cons (ps_if (pt_cmpR op_in_seq (pv 2) (pv 1) (by rfl))
      (pss_one (ps_never))
      (pss_nil))
  (pss_cons (ps_expr (pe_m0 D_Line_step T.c_Line.cl (hr.mono (by omega)) pass0 (pv 0)))
  (pss_one (ps_ret (pv 2)))))
    , ?_⟩
  refine ⟨_, rfl, a, dx, _, rfl, h1, lnF_no (by decide +kernel) (by decide +kernel) (by decide +kernel) (by decide +kernel), a, ws, r, _, rfl, hL, hu, hn, fun H1 s1 => ?_⟩
  refine ⟨_, rfl, _, rfl, p, _, rfl, .inl (s1.seq hP), rfl, flat_strs, _, rfl, iteF' (by rw [inV_str, decide_eq_false hno]; rfl) ?_⟩
  refine ⟨_, rfl, a, dx, _, rfl, s1 _ _ h1, lnF_no (by decide +kernel) (by decide +kernel) (by decide +kernel) (by decide +kernel), a, ws, r, rfl, hL.same s1, hr', fun H' s' L' => ?_⟩
  exact ⟨_, rfl, q H' ((SameX.of s1).trans s') L'⟩
/-- the name's first place, and no least one is asked -/
def spKnownName (K : PySem.W.Frag) (C : Addr) : Sp := fun vs H Q _ => ∃ (a : Addr) (ws : List Str) (r : Nat) (p : Addr) (ns : List Str) (u : Str) (j : Nat) (least : Int), vs = [.ref a, .ref p, .int least] ∧ LnAt C H a ws r ∧ SqL K H p (ns.map V.str) ∧ ws[r]? = some u ∧ NameOk u ∧
  ns[j]? = some u ∧ ns.Nodup ∧ least ≤ (j : Int) ∧ ∀ H', SameX a H H' → LnAt C H' a ws (r + 1) → Q (.int (j : Int)) H'
theorem nodup_first {ns : List Str} {u : Str} {j : Nat} (hd : ns.Nodup) (h : ns[j]? = some u) : ∀ (m : Nat) (z : V), m < j → (ns.map V.str)[m]? = some z → eqV z (.str u) = false := fun m z hm hz => by
  rw [List.getElem?_map] at hz
  cases e : ns[m]? with
  | none => rw [e] at hz; cases hz
  | some y =>
    rw [e] at hz
    have ez : V.str y = z := Option.some.inj hz
    rw [← ez]
    show decide (y = u) = false
    refine decide_eq_false fun q => ?_
    obtain ⟨h1, e1⟩ := List.getElem?_eq_some_iff.mp e
    obtain ⟨h2, e2⟩ := List.getElem?_eq_some_iff.mp h
    have := (List.getElem_inj hd).mp (e1.trans (q.trans e2.symm))
    omega
theorem read_known_body {f : Addr} {cdv : Value} {A : Around} {outer : List Env} {s : Shared} {H : Hp} {vs : List V} {Q : VK} {E : XK} (T : TxtL K mg C) (D_Line_due_name : MDef P w K mg base CX0 3 C "due_name" ["self"] [] (spDueName C)) (D_Line_step : MDef P w K mg base CX0 1 C "step" ["self"] [] (spStep C))
    (hr : Room 3 (A.deeper (envOfC "Line.read_known_name" (defScope s_Line_read_known_name) s.heap.objs.size f cdv))) (h : spKnownName K C vs H Q E) :
    ∃ t, PSs (cxOf CX0 P w K mg base ["self", "names", "least", "word", "number"] "Line.read_known_name" (defScope s_Line_read_known_name) f cdv A outer s H E).nox (defBody s_Line_read_known_name) t ∧ t { nx := fun _ H' => Q .non H', rt := Q } (start ["self", "names", "least", "word", "number"] vs) H := by
  have B := T.B
  obtain ⟨a, ws, r, p, ns, u, j, least, rfl, hL, hP, hu, hn, hj, hd, hle, q⟩ := h
  obtain ⟨dx, nn, wl, c, h1, h2⟩ := hL.ex
  have hr' : r < ws.length := (List.getElem?_eq_some_iff.mp hu).1
  have hm : u ∈ ns := List.mem_of_getElem? hj
  refine ⟨_, pss_cons (ps_set (i := 3) sc_Line_read_known_name.nd rfl (Or.inl rfl) (pe_m0 D_Line_due_name T.c_Line.cl (hr.mono (by omega)) pass0 (pv 0)))
  (pss_cons (ps_if (pt_cmpR op_notIn_seq (pv 3) (pv 1) (by rfl))
      (pss_one (ps_never))
      (pss_nil))
  (pss_cons (ps_set (i := 4) sc_Line_read_known_name.nd rfl (Or.inl rfl) (pe_bm PySem.F.plainAttrs_list PySem.F.slot_list_index PySem.F.type_list_index mt_index (pv 1) (pa_cons (pv 3) pa_nil)))
  (pss_cons (ps_if (pt_cmpR op_lt (pv 4) (pv 2) (nomark _))
      (pss_one (ps_never))
      (pss_nil))
  (pss_cons (ps_expr (pe_m0 D_Line_step T.c_Line.cl (hr.mono (by omega)) pass0 (pv 0)))
  (pss_one (ps_ret (pv 4)))))))
    , ?_⟩
  refine ⟨_, rfl, a, dx, _, rfl, h1, lnF_no (by decide +kernel) (by decide +kernel) (by decide +kernel) (by decide +kernel), a, ws, r, _, rfl, hL, hu, hn, fun H1 s1 => ?_⟩
  refine ⟨_, rfl, _, rfl, p, _, rfl, .inl (s1.seq hP), rfl, flat_strs, _, rfl, iteF' (by rw [inV_str, decide_eq_true hm]; rfl) ?_⟩
  refine ⟨_, rfl, .inl ⟨rfl, _, s1.seq hP⟩, _, rfl, p, _, _, j, .str u, rfl, rfl, s1.seq hP, rfl, flat_strs, by rw [List.getElem?_map, hj]; rfl, decide_eq_true rfl, nodup_first hd hj, ?_⟩
  refine ⟨_, rfl, _, rfl, _, _, rfl, rfl, _, rfl, iteF' (decide_eq_false (by omega)) ?_⟩
  refine ⟨_, rfl, a, dx, _, rfl, s1 _ _ h1, lnF_no (by decide +kernel) (by decide +kernel) (by decide +kernel) (by decide +kernel), a, ws, r, rfl, hL.same s1, hr', fun H' s' L' => ?_⟩
  exact ⟨_, rfl, q H' ((SameX.of s1).trans s') L'⟩
theorem d_read_known_name (T : TxtL K mg C) (D_Line_due_name : MDef P w K mg base CX0 3 C "due_name" ["self"] [] (spDueName C)) (D_Line_step : MDef P w K mg base CX0 1 C "step" ["self"] [] (spStep C))
    (A : MAtD K C "read_known_name" "Line.read_known_name" s_Line_read_known_name ["self", "names", "least"] [.int 0]) : MDef P w K mg base CX0 4 C "read_known_name" ["self", "names", "least"] [.int 0] (spKnownName K C) := by
  refine A.ok sc_Line_read_known_name (fun vs H Q E h => ?_) (fun f cdv A outer s H vs Q E hr h => read_known_body T D_Line_due_name D_Line_step hr h)
  obtain ⟨a, ws, r, p, ns, u, j, least, rfl, _⟩ := h
  rfl
def spFinish (C : Addr) : Sp := fun vs H Q _ => ∃ (a : Addr) (ws : List Str), vs = [.ref a] ∧ LnAt C H a ws ws.length ∧ Q .non H
theorem d_finish (T : TxtL K mg C) (D_Line_has_more : MDef P w K mg base CX0 1 C "has_more" ["self"] [] (spHasMore C)) (A : MAt K C "finish" "Line.finish" s_Line_finish ["self"]) : MDef P w K mg base CX0 3 C "finish" ["self"] [] (spFinish C) := by
  have B := T.B
  refine A.ok sc_Line_finish (fun vs H Q E h => ?_) (fun f cdv A outer s H vs Q E hr h => ?_)
  · obtain ⟨a, ws, rfl, _⟩ := h
    rfl
  obtain ⟨a, ws, rfl, hL, q⟩ := h
  obtain ⟨dx, nn, wl, c, h1, h2⟩ := hL.ex
  refine ⟨_, pss_one (ps_if (pt_val (pe_m0 D_Line_has_more T.c_Line.cl (hr.mono (by omega)) pass0 (pv 0)))
      (pss_cons (ps_never)
      (pss_one (ps_never)))
      (pss_nil))
    , ?_⟩
  exact ⟨_, rfl, a, dx, _, rfl, h1, lnF_no (by decide +kernel) (by decide +kernel) (by decide +kernel) (by decide +kernel), a, ws, _, rfl, hL, _, rfl, iteF' (decide_eq_false (Nat.lt_irrefl _)) q⟩
def spLines (C : Addr) : Sp := fun vs H Q _ => ∃ (lns : List (List Str)), vs = [.str (glue (lns.map row))] ∧ (∀ l ∈ lns, l ≠ [] ∧ (∀ x ∈ l, WdOk x) ∧ l.length ≤ 1015) ∧ lns.length ≤ 100 ∧ (glue (lns.map row)).length ≤ 1000000 ∧
  ∀ (p : Addr) (as : List Addr) (H' : Hp), Same H H' → H p = none → (∀ a ∈ as, H a = none) → as.Nodup → H' p = some (.lst (as.map V.ref)) → Paired (fun a l => LnAt C H' a l 0) as lns → Q (.ref p) H'
theorem d_lines_of (T : TxtL K mg C) (DI_Line : MDef P w K mg base CX0 1 C "__init__" ["self", "number", "row"] [] (spLnInit C)) (A : At K mg "lines_of" s_lines_of ["text"]) : DefOk P w K mg base CX0 3 "lines_of" ["text"] (spLines C) := by
  have B := T.B
  refine A.ok sc_lines_of (fun vs H Q E h => ?_) (fun f cdv A outer s H vs Q E hr h => ?_)
  · obtain ⟨lns, rfl, _⟩ := h
    rfl
  obtain ⟨lns, rfl, hl, hn, hz, q⟩ := h
  refine ⟨_, pss_cons (ps_set (i := 1) sc_lines_of.nd rfl (Or.inl rfl) (pe_split (pv 0) pe_str))
  (pss_cons (ps_set (i := 2) sc_lines_of.nd rfl (Or.inl rfl) (pe_bm0 PySem.F.plainAttrs_list PySem.F.slot_list_pop PySem.F.type_list_pop mt_pop (pv 1)))
  (pss_cons (ps_if (pt_cmpR op_ne (pv 2) pe_str (nomark _))
      (pss_one (ps_never))
      (pss_nil))
  (pss_one (ps_ret (pe_lc (own := [("number", 3), ("row", 4)])  rfl sc_lines_of.nd (pi_enumS (by rfl) B.enumerate (pa_cons (pv 1) pa_nil) (pk_cons pe_int pk_nil)) (blkOk_by (own := [("number", 3), ("row", 4)]) (N := ["text", "rows", "last", "number", "row"]) (sc := defScope s_lines_of) (by decide +kernel)) (fun _ _ _ _ _ => pg_tupK (K := K) (n := 2) rfl (by rfl) (pgs_cons (pg_name (i := 3) sc_lines_of.nd rfl (Or.inl rfl)) (pgs_cons (pg_name (i := 4) sc_lines_of.nd rfl (Or.inl rfl)) (pgs_nil)))) (fun _ _ _ _ _ => pts_nil) (fun _ _ _ _ _ => (pe_mk DI_Line T.c_Line (hr.mono (by omega)) pass0 (pa_cons (pv 3) (pa_cons (pv 4) pa_nil)))))))))
    , ?_⟩
  have hsplit : Txt.split (glue (lns.map row)) nl = lns.map row ++ [Str.empty] := glue_split fun r hr => by
    obtain ⟨l, hl', rfl⟩ := List.mem_map.mp hr
    exact row_free (hl l hl').2.1
  refine ⟨_, rfl, ⟨_, rfl⟩, _, nl, rfl, rfl, by decide +kernel, Nat.le_trans (Nat.add_le_add_right hz 2) (by decide), fun rl hrl => ?_⟩
  have e0 : upd H rl (.lst ((Txt.split (glue (lns.map row)) nl).map V.str)) = upd H rl (.lst ((lns.map row).map V.str ++ [.str Str.empty])) := by
    rw [hsplit, List.map_append]
    rfl
  rw [e0]
  refine ⟨_, rfl, .inl ⟨rfl, _, SqL.of upd_same⟩, rl, _, .str Str.empty, rfl, rfl, upd_same, by rw [List.length_append, List.length_singleton, Nat.add_sub_cancel, List.getElem?_append_right (Nat.le_refl _), Nat.sub_self]; rfl, ?_⟩
  rw [upd_upd, List.dropLast_concat]
  refine ⟨_, rfl, rfl, _, rfl, iteF' (by decide +kernel) ?_⟩
  refine ⟨_, rfl, _, _, 1, rfl, rfl, SqL.of upd_same, by decide, by decide, fun D hD => ?_⟩
  have hrlD : rl ≠ D := fun z => by
    rw [← z, upd_same] at hD
    cases hD
  have hD0 : H D = none := by
    rw [upd_ne hrlD.symm] at hD
    exact hD
  have sS : Same H (upd H rl (.lst ((lns.map row).map V.str))) := same_new hrl _
  refine lc_it (walk_enumS (xs := (lns.map row).map V.str)) (fun i H' => ∃ as : List Addr, as.length = i ∧ H' D = some (.lst (as.map V.ref)) ∧ Same (upd H rl (.lst ((lns.map row).map V.str))) H' ∧ (∀ a ∈ as, H a = none) ∧ as.Nodup ∧ Paired (fun a l => LnAt C H' a l 0 ∧ l ≠ []) as (lns.take i))
    ⟨[], rfl, upd_same, same_new hD _, fun _ z => absurd z List.not_mem_nil, List.nodup_nil, .nil⟩ (fun i H1 _ ⟨as, _, _, z, _⟩ => z.seq (SqL.of upd_same)) (fun i x H1 H2 hi hI hy => ?_) (fun H1 hI => ?_)
  · obtain ⟨T', x2, rfl, hT', rfl, hx2⟩ := hy
    obtain ⟨as, ha, hDD, hs, hfr, hnd, hpr⟩ := hI
    have hi' : i < lns.length := by
      rw [List.length_map, List.length_map] at hi
      exact hi
    have ex2 : x2 = .str (row lns[i]) := by
      rw [List.getElem?_map, List.getElem?_map, List.getElem?_eq_getElem hi'] at hx2
      exact (Option.some.inj hx2).symm
    subst ex2
    obtain ⟨k1, k2, k3⟩ := hl _ (List.getElem_mem hi')
    have s12 := same_new hT' (.tup [.int (1 + (i : Int)), .str (row lns[i])])
    refine ⟨T', _, rfl, SqT.of upd_same, rfl, _, _, rfl, _, _, rfl, rfl, rfl, _, rfl, _, rfl, fun x dx hx hdx ne => ?_⟩
    refine ⟨x, dx, _, lns[i], rfl, upd_same, k1, k2, by omega, fun H3 s3 L3 => ⟨rfl, ?_⟩⟩
    have s13 : Same H1 H3 := s12.trans (same_mk hx hdx s3)
    have hxH : H x = none := (sS.trans (hs.trans s12)).free hx
    refine ⟨_, s13 _ _ hDD, by rw [List.length_map, ha]; exact small1000 (by omega), as ++ [x], by rw [List.length_append, ha, List.length_singleton], by rw [upd_same, List.map_append]; rfl, same_at hD (hs.trans s13) _, ?_, ?_, ?_⟩
    · intro a hma
      rcases List.mem_append.mp hma with hma | hma
      · exact hfr a hma
      · rw [List.mem_singleton.mp hma]; exact hxH
    · refine List.nodup_append.mpr ⟨hnd, List.pairwise_singleton _ _, fun a hma b hmb z => ?_⟩
      rw [List.mem_singleton.mp hmb] at z
      subst z
      obtain ⟨j, hj, ej⟩ := List.mem_iff_getElem.mp hma
      obtain ⟨l, _, hla⟩ := paired_at hpr (List.getElem?_eq_getElem hj)
      rw [ej] at hla
      obtain ⟨d1, d2, d3, d4, g1, _⟩ := hla.1.ex
      rw [(s12 _ _ g1)] at hx
      cases hx
    · have upL : ∀ {a : Addr} {l : List Str}, l ≠ [] → LnAt C H3 a l 0 → LnAt C (upd H3 D (.lst (as.map V.ref ++ [.ref x]))) a l 0 := fun {a l} hne h => by
        obtain ⟨d1, d2, d3, d4, g1, g2⟩ := h.ex
        have gD := s13 _ _ hDD
        refine ⟨⟨d1, d2, d3, d4, by rw [upd_ne (ne_of g1 gD (fun z => nomatch z))]; exact g1, ?_⟩, h.ok⟩
        have n2 : d3 ≠ D := fun z => by
          rw [z, gD] at g2
          injection g2 with g2
          injection g2 with g2
          cases l with
          | nil => exact hne rfl
          | cons b bs => cases as with
            | nil => cases g2
            | cons c cs => cases g2
        rw [upd_ne n2]
        exact g2
      rw [List.take_add_one, List.getElem?_eq_getElem hi']
      exact paired_snoc (Paired.mapP hpr fun a l h => ⟨upL h.2 (h.1.same s13), h.2⟩) ⟨upL k1 L3, k1⟩
  · obtain ⟨as, ha, hDD, hs, hfr, hnd, hpr⟩ := hI
    rw [List.length_map, List.length_map, List.take_length] at hpr
    exact q D as H1 (sS.trans hs) hD0 hfr hnd hDD (Paired.mapP hpr fun a l h => h.1)
end
end DP
namespace DP
open PySem PySem.Spec PyProof.Rows L2
abbrev s_names_of : Stmt := topS 35
theorem sc_names_of : FnScope ["things", "thing"] ["things"] (defScope s_names_of) := ⟨rfl, rfl, rfl, by decide +kernel, rfl, by decide +kernel, by decide +kernel⟩
abbrev s_read_light : Stmt := topS 37
theorem sc_read_light : FnScope ["line", "horizon", "light", "least", "first"] ["line", "horizon"] (defScope s_read_light) := ⟨rfl, rfl, rfl, by decide +kernel, rfl, by decide +kernel, by decide +kernel⟩
abbrev s_read_satellite : Stmt := topS 36
theorem sc_read_satellite : FnScope ["line", "horizon", "things", "name", "store", "battery", "level", "reserve", "charge", "settle", "light"] ["line", "horizon", "things"] (defScope s_read_satellite) := ⟨rfl, rfl, rfl, by decide +kernel, rfl, by decide +kernel, by decide +kernel⟩
abbrev s_read_station : Stmt := topS 38
theorem sc_read_station : FnScope ["line", "_", "things", "name", "antennas", "turn"] ["line", "_", "things"] (defScope s_read_station) := ⟨rfl, rfl, rfl, by decide +kernel, rfl, by decide +kernel, by decide +kernel⟩
abbrev s_read_recording : Stmt := topS 39
theorem sc_read_recording : FnScope ["line", "horizon", "things", "name", "satellite", "earliest", "latest", "length", "size", "energy", "worth", "rank", "deadline"] ["line", "horizon", "things"] (defScope s_read_recording) := ⟨rfl, rfl, rfl, by decide +kernel, rfl, by decide +kernel, by decide +kernel⟩
abbrev s_read_pass : Stmt := topS 40
theorem sc_read_pass : FnScope ["line", "horizon", "things", "name", "satellite", "station", "first", "end", "room", "energy", "fee"] ["line", "horizon", "things"] (defScope s_read_pass) := ⟨rfl, rfl, rfl, by decide +kernel, rfl, by decide +kernel, by decide +kernel⟩
abbrev s_most_things : Stmt := topS 45
theorem sc_most_things : FnScope ["sort", "most"] ["sort"] (defScope s_most_things) := ⟨rfl, rfl, rfl, by decide +kernel, rfl, by decide +kernel, by decide +kernel⟩
abbrev s_read_sort : Stmt := topS 44
theorem sc_read_sort : FnScope ["line", "ahead", "things", "word", "sort"] ["line", "ahead", "things"] (defScope s_read_sort) := ⟨rfl, rfl, rfl, by decide +kernel, rfl, by decide +kernel, by decide +kernel⟩
abbrev s_read_things : Stmt := topS 43
theorem sc_read_things : FnScope ["lines", "horizon", "things", "sort", "line", "reader"] ["lines", "horizon"] (defScope s_read_things) := ⟨rfl, rfl, rfl, by decide +kernel, rfl, by decide +kernel, by decide +kernel⟩
abbrev s_Satellite___init__ : Stmt := inClass (topS 28) 0
theorem sc_Satellite___init__ : FnScope ["self", "name", "store", "battery", "start_level", "reserve", "charge", "settle", "light"] ["self", "name", "store", "battery", "start_level", "reserve", "charge", "settle", "light"] (defScope s_Satellite___init__) := ⟨rfl, rfl, rfl, by decide +kernel, rfl, by decide +kernel, by decide +kernel⟩
abbrev s_Station___init__ : Stmt := inClass (topS 29) 0
theorem sc_Station___init__ : FnScope ["self", "name", "antennas", "turn"] ["self", "name", "antennas", "turn"] (defScope s_Station___init__) := ⟨rfl, rfl, rfl, by decide +kernel, rfl, by decide +kernel, by decide +kernel⟩
abbrev s_Recording___init__ : Stmt := inClass (topS 30) 0
theorem sc_Recording___init__ : FnScope ["self", "name", "satellite", "earliest", "latest", "length", "size", "energy", "worth", "rank", "deadline"] ["self", "name", "satellite", "earliest", "latest", "length", "size", "energy", "worth", "rank", "deadline"] (defScope s_Recording___init__) := ⟨rfl, rfl, rfl, by decide +kernel, rfl, by decide +kernel, by decide +kernel⟩
abbrev s_Pass___init__ : Stmt := inClass (topS 31) 0
theorem sc_Pass___init__ : FnScope ["self", "name", "satellite", "station", "span", "room", "energy", "fee"] ["self", "name", "satellite", "station", "span", "room", "energy", "fee"] (defScope s_Pass___init__) := ⟨rfl, rfl, rfl, by decide +kernel, rfl, by decide +kernel, by decide +kernel⟩
abbrev s_World___init__ : Stmt := inClass (topS 32) 6
theorem sc_World___init__ : FnScope ["self", "text", "horizon", "things", "satellites", "stations", "recordings", "passes"] ["self", "text", "horizon", "things"] (defScope s_World___init__) := ⟨rfl, rfl, rfl, by decide +kernel, rfl, by decide +kernel, by decide +kernel⟩
abbrev s_World_parse : Stmt := inClass (topS 32) 7
theorem sc_World_parse : FnScope ["text", "lines", "horizon"] ["text"] (defScope s_World_parse) := ⟨rfl, rfl, rfl, by decide +kernel, rfl, by decide +kernel, by decide +kernel⟩
theorem SameX.new {a L : Addr} {H H' : Hp} {o : HO} (hL : H L = none) (s : SameX a H H') : SameX a H (L2.upd H' L o) := fun b u n h => by
  rw [upd_ne (ne_of_none h hL)]
  exact s b u n h
theorem SameX.sqT {K : PySem.W.Frag} {H H' : Hp} {a t C dx : Addr} {fs : List (Str × V)} {xs : List V} (s : SameX a H H') (ha : H a = some (.ins C dx fs)) (h : SqT K H t xs) : SqT K H' t xs := by
  rcases h with (h | ⟨u, h⟩) | h
  · exact .inl (.inl (s _ _ (ne_of h ha (fun z => nomatch z)) h))
  · exact .inl (.inr ⟨u, s _ _ (ne_of h ha (fun z => nomatch z)) h⟩)
  · exact .inr h
theorem SameX.sqL {K : PySem.W.Frag} {H H' : Hp} {a t C dx : Addr} {fs : List (Str × V)} {xs : List V} (s : SameX a H H') (ha : H a = some (.ins C dx fs)) (h : SqL K H t xs) : SqL K H' t xs := by
  rcases h with (h | ⟨u, h⟩) | h
  · exact .inl (.inl (s _ _ (ne_of h ha (fun z => nomatch z)) h))
  · exact .inl (.inr ⟨u, s _ _ (ne_of h ha (fun z => nomatch z)) h⟩)
  · exact .inr h
theorem SameX.spans {K : PySem.W.Frag} {H H' : Hp} {a C dx : Addr} {fs : List (Str × V)} {xs : List V} {qs : List (Int × Int)} (s : SameX a H H') (ha : H a = some (.ins C dx fs)) (h : Spans K H xs qs) : Spans K H' xs qs :=
  Paired.mapP h fun _ _ ⟨t, h1, h2⟩ => ⟨t, h1, s.sqT ha h2⟩
/-- an object with a name -/
def Named (K : PySem.W.Frag) (H : Hp) (x : V) (nm : Str) : Prop := ∃ a C dx fs, x = .ref a ∧ H a = some (.ins C dx fs) ∧ Cls K C ∧ NoAttr K C "name" ∧ fs.lookup ("name" : Str) = some (.str nm)
theorem Named.same {K : PySem.W.Frag} {H H' : Hp} {x : V} {nm : Str} (h : Named K H x nm) (s : Same H H') : Named K H' x nm := by
  obtain ⟨a, C, dx, fs, h1, h2, h3⟩ := h
  exact ⟨a, C, dx, fs, h1, s _ _ h2, h3⟩
section
variable {P : Program} {w : World} {K : PySem.W.Frag} {mg : Str → Option Value} {base : Heap}
def spNames (K : PySem.W.Frag) : Sp := fun vs H Q _ => ∃ (l : Addr) (xs : List V) (ns : List Str), vs = [.ref l] ∧ SqL K H l xs ∧ Paired (Named K H) xs ns ∧ ns.length ≤ 100 ∧
  ∀ p H', Same H H' → H p = none → H' p = some (.lst (ns.map V.str)) → Q (.ref p) H'
theorem d_names_of (B : Bt mg) (A : At K mg "names_of" s_names_of ["things"]) : DefOk P w K mg base CX0 1 "names_of" ["things"] (spNames K) := by
  refine A.ok sc_names_of (fun vs H Q E h => ?_) (fun f cdv A outer s H vs Q E hr h => ?_)
  · obtain ⟨l, xs, ns, rfl, _⟩ := h
    rfl
  obtain ⟨l, xs, ns, rfl, hl, hp, hn, q⟩ := h
  have hlen := paired_len hp
  refine ⟨_, pss_one (ps_ret (pe_lc (own := [("thing", 1)])  rfl sc_names_of.nd (pi_list (pv 0)) (blkOk_by (own := [("thing", 1)]) (N := ["things", "thing"]) (sc := defScope s_names_of) (by decide +kernel)) (fun _ _ _ _ _ => pg_name (i := 1) sc_names_of.nd rfl (Or.inl rfl)) (fun _ _ _ _ _ => pts_nil) (fun _ _ _ _ _ => (pe_fldK (K := K) rfl (pv 1) rfl))))
    , ?_⟩
  refine ⟨_, rfl, l, rfl, ⟨_, hl⟩, fun D hD => ?_⟩
  refine lc_list (K := K) (a := l) (xs := xs) (fun i H' => Same H H' ∧ H' D = some (.lst ((ns.take i).map V.str))) ⟨same_new hD _, upd_same⟩ (fun i H' _ h => h.1.seq hl) (fun i x H1 hx hI => ?_) (fun H1 hI => ?_)
  · obtain ⟨hs, hDD⟩ := hI
    obtain ⟨nm, hnm, hx2⟩ := paired_at hp hx
    obtain ⟨a, C, dx, fs, rfl, h2, h3, h4, h5⟩ := hx2
    refine ⟨rfl, _, rfl, a, C, dx, fs, _, rfl, hs _ _ h2, h3, h4, h5, _, hDD, ?_, same_at hD hs _, ?_⟩
    · rw [List.length_map, List.length_take]
      exact small1000 (by omega)
    · rw [upd_same, List.take_add_one, hnm, List.map_append]
      rfl
  · obtain ⟨hs, hDD⟩ := hI
    rw [hlen, List.take_length] at hDD
    exact q D H1 hs hD hDD
end
def satF (s : SatD) (t : Addr) : List (Str × V) := [("name", .str s.name), ("store", .int s.store), ("battery", .int s.battery), ("start_level", .int s.level), ("reserve", .int s.reserve), ("charge", .int s.charge), ("settle", .int s.settle), ("light", .ref t)]
def staF (s : StaD) : List (Str × V) := [("name", .str s.name), ("antennas", .int s.antennas), ("turn", .int s.turn)]
def recF (r : RecD) : List (Str × V) := [("name", .str r.name), ("satellite", .int (r.sat : Int)), ("earliest", .int r.earliest), ("latest", .int r.latest), ("length", .int r.length), ("size", .int r.size), ("energy", .int r.energy), ("worth", .int r.worth), ("rank", .int r.rank), ("deadline", .int r.deadline)]
def pasF (p : PasD) (t : Addr) : List (Str × V) := [("name", .str p.name), ("satellite", .int (p.sat : Int)), ("station", .int (p.sta : Int)), ("span", .ref t), ("room", .int p.room), ("energy", .int p.energy), ("fee", .int p.fee)]
def SatAt (K : PySem.W.Frag) (C : Addr) (H : Hp) (x : V) (s : SatD) : Prop := ∃ a dx t ls, x = .ref a ∧ H a = some (.ins C dx (satF s t)) ∧ SqT K H t ls ∧ Spans K H ls s.light
def StaAt (C : Addr) (H : Hp) (x : V) (s : StaD) : Prop := ∃ a dx, x = .ref a ∧ H a = some (.ins C dx (staF s))
def RecAt (C : Addr) (H : Hp) (x : V) (r : RecD) : Prop := ∃ a dx, x = .ref a ∧ H a = some (.ins C dx (recF r))
def PasAt (K : PySem.W.Frag) (C : Addr) (H : Hp) (x : V) (p : PasD) : Prop := ∃ a dx t, x = .ref a ∧ H a = some (.ins C dx (pasF p t)) ∧ SqT K H t [.int p.first, .int p.fin]
/-- a line stays apart from the other objects: their fields are more or fewer -/
theorem SameX.ins {H H' : Hp} {a b C D dx dy : Addr} {fs gs : List (Str × V)} (s : SameX a H H') (ha : H a = some (.ins C dx fs)) (hb : H b = some (.ins D dy gs)) (n : gs.length ≠ fs.length) : H' b = some (.ins D dy gs) := s b _ (ins_ne hb ha n) hb
/-- what the text tells of the other classes -/
structure TxtW (K : PySem.W.Frag) (mg : Str → Option Value) (CL CS CT CR CP CW aS aR fS fT fR fP : Addr) : Prop where
  L : TxtL K mg CL
  c_Satellite : ClsAt K mg "Satellite" CS
  c_Station : ClsAt K mg "Station" CT
  c_Recording : ClsAt K mg "Recording" CR
  c_Pass : ClsAt K mg "Pass" CP
  c_World : ClsAt K mg "World" CW
  n_Satellite_name : NoAttr K CS "name"
  n_Satellite_store : NoAttr K CS "store"
  n_Satellite_battery : NoAttr K CS "battery"
  n_Satellite_start_level : NoAttr K CS "start_level"
  n_Satellite_reserve : NoAttr K CS "reserve"
  n_Satellite_charge : NoAttr K CS "charge"
  n_Satellite_settle : NoAttr K CS "settle"
  n_Satellite_light : NoAttr K CS "light"
  n_Station_name : NoAttr K CT "name"
  n_Station_antennas : NoAttr K CT "antennas"
  n_Station_turn : NoAttr K CT "turn"
  n_Recording_name : NoAttr K CR "name"
  n_Recording_satellite : NoAttr K CR "satellite"
  n_Recording_earliest : NoAttr K CR "earliest"
  n_Recording_latest : NoAttr K CR "latest"
  n_Recording_length : NoAttr K CR "length"
  n_Recording_size : NoAttr K CR "size"
  n_Recording_energy : NoAttr K CR "energy"
  n_Recording_worth : NoAttr K CR "worth"
  n_Recording_rank : NoAttr K CR "rank"
  n_Recording_deadline : NoAttr K CR "deadline"
  n_Pass_name : NoAttr K CP "name"
  n_Pass_satellite : NoAttr K CP "satellite"
  n_Pass_station : NoAttr K CP "station"
  n_Pass_span : NoAttr K CP "span"
  n_Pass_room : NoAttr K CP "room"
  n_Pass_energy : NoAttr K CP "energy"
  n_Pass_fee : NoAttr K CP "fee"
  n_World_text : NoAttr K CW "text"
  n_World_horizon : NoAttr K CW "horizon"
  n_World_satellites : NoAttr K CW "satellites"
  n_World_stations : NoAttr K CW "stations"
  n_World_recordings : NoAttr K CW "recordings"
  n_World_passes : NoAttr K CW "passes"
  g_SATELLITES : ∃ t, mg "SATELLITES" = some (.int 0 t)
  g_STATIONS : ∃ t, mg "STATIONS" = some (.int 1 t)
  g_RECORDINGS : ∃ t, mg "RECORDINGS" = some (.int 2 t)
  g_PASSES : ∃ t, mg "PASSES" = some (.int 3 t)
  g_MOST_UNITS : ∃ t, mg "MOST_UNITS" = some (.int 1000000 t)
  g_MOST_CHARGE : ∃ t, mg "MOST_CHARGE" = some (.int 1000 t)
  g_MOST_DELAY : ∃ t, mg "MOST_DELAY" = some (.int 60 t)
  g_MOST_ANTENNAS : ∃ t, mg "MOST_ANTENNAS" = some (.int 3 t)
  g_MOST_WORTH : ∃ t, mg "MOST_WORTH" = some (.int 1000 t)
  g_MOST_RANK : ∃ t, mg "MOST_RANK" = some (.int 3 t)
  g_MOST_FEE : ∃ t, mg "MOST_FEE" = some (.int 1000 t)
  g_SORTS : mg "SORTS" = some (.ref aS)
  t_SORTS : ∀ H, SqT K H aS (([("satellite" : Str), "station", "recording", "pass"]).map V.str)
  k_SORTS : ∃ o, K.lookup aS = some o ∧ o.cls = .type "tuple" ∧ o.dict = none
  g_READERS : mg "READERS" = some (.ref aR)
  t_READERS : ∀ H, SqT K H aR [.ref fS, .ref fT, .ref fR, .ref fP]
  r_satellite : mg "read_satellite" = some (.ref fS)
  r_station : mg "read_station" = some (.ref fT)
  r_recording : mg "read_recording" = some (.ref fR)
  r_pass : mg "read_pass" = some (.ref fP)
  rdW : ClX.CRead K CW (.type "type")
  v_MOST_HORIZON : ∃ t, ClX.CVal K CW (.type "type") "MOST_HORIZON" (.int 500) (.int 500 t)
  v_MOST_SATELLITES : ∃ t, ClX.CVal K CW (.type "type") "MOST_SATELLITES" (.int 3) (.int 3 t)
  v_MOST_STATIONS : ∃ t, ClX.CVal K CW (.type "type") "MOST_STATIONS" (.int 3) (.int 3 t)
  v_MOST_RECORDINGS : ∃ t, ClX.CVal K CW (.type "type") "MOST_RECORDINGS" (.int 10) (.int 10 t)
  v_MOST_PASSES : ∃ t, ClX.CVal K CW (.type "type") "MOST_PASSES" (.int 10) (.int 10 t)
  v_MOST_SHIFT : ∃ t, ClX.CVal K CW (.type "type") "MOST_SHIFT" (.int 20) (.int 20 t)
section
variable {P : Program} {w : World} {K : PySem.W.Frag} {mg : Str → Option Value} {base : Heap} {CL CS CT CR CP CW aS aR fS fT fR fP : Addr}
theorem TxtW.c_Line (T : TxtW K mg CL CS CT CR CP CW aS aR fS fT fR fP) : ClsAt K mg "Line" CL := T.L.c_Line
def spI_Satellite (C : Addr) : Sp := fun vs H Q _ => ∃ (x dx : Addr) (v0 v1 v2 v3 v4 v5 v6 v7 : V), vs = [.ref x, v0, v1, v2, v3, v4, v5, v6, v7] ∧ H x = some (.ins C dx []) ∧
  Q .non (upd H x (.ins C dx [("name", v0), ("store", v1), ("battery", v2), ("start_level", v3), ("reserve", v4), ("charge", v5), ("settle", v6), ("light", v7)]))
theorem dI_Satellite (T : TxtW K mg CL CS CT CR CP CW aS aR fS fT fR fP) (A : MAt K CS "__init__" "Satellite.__init__" s_Satellite___init__ ["self", "name", "store", "battery", "start_level", "reserve", "charge", "settle", "light"]) : MDef P w K mg base CX0 1 CS "__init__" ["self", "name", "store", "battery", "start_level", "reserve", "charge", "settle", "light"] [] (spI_Satellite CS) := by
  refine A.ok sc_Satellite___init__ (fun vs H Q E h => ?_) (fun f cdv A outer s H vs Q E hr h => ?_)
  · obtain ⟨x, dx, v0, v1, v2, v3, v4, v5, v6, v7, rfl, _⟩ := h
    rfl
  obtain ⟨x, dx, v0, v1, v2, v3, v4, v5, v6, v7, rfl, hx, q⟩ := h
  refine ⟨_, pss_cons (ps_fld (pv 0) (pv 1) rfl)
  (pss_cons (ps_fld (pv 0) (pv 2) rfl)
  (pss_cons (ps_fld (pv 0) (pv 3) rfl)
  (pss_cons (ps_fld (pv 0) (pv 4) rfl)
  (pss_cons (ps_fld (pv 0) (pv 5) rfl)
  (pss_cons (ps_fld (pv 0) (pv 6) rfl)
  (pss_cons (ps_fld (pv 0) (pv 7) rfl)
  (pss_one (ps_fld (pv 0) (pv 8) rfl)))))))), ?_⟩
  refine ⟨_, rfl, _, rfl, x, CS, dx, _, rfl, hx, T.c_Satellite.cl, T.n_Satellite_name, (by show 0 < 1000; decide), ?_⟩
  rw [put_nil]
  refine ⟨_, rfl, _, rfl, x, CS, dx, _, rfl, upd_same, T.c_Satellite.cl, T.n_Satellite_store, (by show 1 < 1000; decide), ?_⟩
  rw [upd_upd]
  rw [put_miss (by decide +kernel)]
  rw [put_nil]
  refine ⟨_, rfl, _, rfl, x, CS, dx, _, rfl, upd_same, T.c_Satellite.cl, T.n_Satellite_battery, (by show 2 < 1000; decide), ?_⟩
  rw [upd_upd]
  rw [put_miss (by decide +kernel)]
  rw [put_miss (by decide +kernel)]
  rw [put_nil]
  refine ⟨_, rfl, _, rfl, x, CS, dx, _, rfl, upd_same, T.c_Satellite.cl, T.n_Satellite_start_level, (by show 3 < 1000; decide), ?_⟩
  rw [upd_upd]
  rw [put_miss (by decide +kernel)]
  rw [put_miss (by decide +kernel)]
  rw [put_miss (by decide +kernel)]
  rw [put_nil]
  refine ⟨_, rfl, _, rfl, x, CS, dx, _, rfl, upd_same, T.c_Satellite.cl, T.n_Satellite_reserve, (by show 4 < 1000; decide), ?_⟩
  rw [upd_upd]
  rw [put_miss (by decide +kernel)]
  rw [put_miss (by decide +kernel)]
  rw [put_miss (by decide +kernel)]
  rw [put_miss (by decide +kernel)]
  rw [put_nil]
  refine ⟨_, rfl, _, rfl, x, CS, dx, _, rfl, upd_same, T.c_Satellite.cl, T.n_Satellite_charge, (by show 5 < 1000; decide), ?_⟩
  rw [upd_upd]
  rw [put_miss (by decide +kernel)]
  rw [put_miss (by decide +kernel)]
  rw [put_miss (by decide +kernel)]
  rw [put_miss (by decide +kernel)]
  rw [put_miss (by decide +kernel)]
  rw [put_nil]
  refine ⟨_, rfl, _, rfl, x, CS, dx, _, rfl, upd_same, T.c_Satellite.cl, T.n_Satellite_settle, (by show 6 < 1000; decide), ?_⟩
  rw [upd_upd]
  rw [put_miss (by decide +kernel)]
  rw [put_miss (by decide +kernel)]
  rw [put_miss (by decide +kernel)]
  rw [put_miss (by decide +kernel)]
  rw [put_miss (by decide +kernel)]
  rw [put_miss (by decide +kernel)]
  rw [put_nil]
  refine ⟨_, rfl, _, rfl, x, CS, dx, _, rfl, upd_same, T.c_Satellite.cl, T.n_Satellite_light, (by show 7 < 1000; decide), ?_⟩
  rw [upd_upd]
  rw [put_miss (by decide +kernel)]
  rw [put_miss (by decide +kernel)]
  rw [put_miss (by decide +kernel)]
  rw [put_miss (by decide +kernel)]
  rw [put_miss (by decide +kernel)]
  rw [put_miss (by decide +kernel)]
  rw [put_miss (by decide +kernel)]
  rw [put_nil]
  exact q
def spI_Station (C : Addr) : Sp := fun vs H Q _ => ∃ (x dx : Addr) (v0 v1 v2 : V), vs = [.ref x, v0, v1, v2] ∧ H x = some (.ins C dx []) ∧
  Q .non (upd H x (.ins C dx [("name", v0), ("antennas", v1), ("turn", v2)]))
theorem dI_Station (T : TxtW K mg CL CS CT CR CP CW aS aR fS fT fR fP) (A : MAt K CT "__init__" "Station.__init__" s_Station___init__ ["self", "name", "antennas", "turn"]) : MDef P w K mg base CX0 1 CT "__init__" ["self", "name", "antennas", "turn"] [] (spI_Station CT) := by
  refine A.ok sc_Station___init__ (fun vs H Q E h => ?_) (fun f cdv A outer s H vs Q E hr h => ?_)
  · obtain ⟨x, dx, v0, v1, v2, rfl, _⟩ := h
    rfl
  obtain ⟨x, dx, v0, v1, v2, rfl, hx, q⟩ := h
  refine ⟨_, pss_cons (ps_fld (pv 0) (pv 1) rfl)
  (pss_cons (ps_fld (pv 0) (pv 2) rfl)
  (pss_one (ps_fld (pv 0) (pv 3) rfl))), ?_⟩
  refine ⟨_, rfl, _, rfl, x, CT, dx, _, rfl, hx, T.c_Station.cl, T.n_Station_name, (by show 0 < 1000; decide), ?_⟩
  rw [put_nil]
  refine ⟨_, rfl, _, rfl, x, CT, dx, _, rfl, upd_same, T.c_Station.cl, T.n_Station_antennas, (by show 1 < 1000; decide), ?_⟩
  rw [upd_upd]
  rw [put_miss (by decide +kernel)]
  rw [put_nil]
  refine ⟨_, rfl, _, rfl, x, CT, dx, _, rfl, upd_same, T.c_Station.cl, T.n_Station_turn, (by show 2 < 1000; decide), ?_⟩
  rw [upd_upd]
  rw [put_miss (by decide +kernel)]
  rw [put_miss (by decide +kernel)]
  rw [put_nil]
  exact q
def spI_Recording (C : Addr) : Sp := fun vs H Q _ => ∃ (x dx : Addr) (v0 v1 v2 v3 v4 v5 v6 v7 v8 v9 : V), vs = [.ref x, v0, v1, v2, v3, v4, v5, v6, v7, v8, v9] ∧ H x = some (.ins C dx []) ∧
  Q .non (upd H x (.ins C dx [("name", v0), ("satellite", v1), ("earliest", v2), ("latest", v3), ("length", v4), ("size", v5), ("energy", v6), ("worth", v7), ("rank", v8), ("deadline", v9)]))
theorem dI_Recording (T : TxtW K mg CL CS CT CR CP CW aS aR fS fT fR fP) (A : MAt K CR "__init__" "Recording.__init__" s_Recording___init__ ["self", "name", "satellite", "earliest", "latest", "length", "size", "energy", "worth", "rank", "deadline"]) : MDef P w K mg base CX0 1 CR "__init__" ["self", "name", "satellite", "earliest", "latest", "length", "size", "energy", "worth", "rank", "deadline"] [] (spI_Recording CR) := by
  refine A.ok sc_Recording___init__ (fun vs H Q E h => ?_) (fun f cdv A outer s H vs Q E hr h => ?_)
  · obtain ⟨x, dx, v0, v1, v2, v3, v4, v5, v6, v7, v8, v9, rfl, _⟩ := h
    rfl
  obtain ⟨x, dx, v0, v1, v2, v3, v4, v5, v6, v7, v8, v9, rfl, hx, q⟩ := h
  refine ⟨_, pss_cons (ps_fld (pv 0) (pv 1) rfl)
  (pss_cons (ps_fld (pv 0) (pv 2) rfl)
  (pss_cons (ps_fld (pv 0) (pv 3) rfl)
  (pss_cons (ps_fld (pv 0) (pv 4) rfl)
  (pss_cons (ps_fld (pv 0) (pv 5) rfl)
  (pss_cons (ps_fld (pv 0) (pv 6) rfl)
  (pss_cons (ps_fld (pv 0) (pv 7) rfl)
  (pss_cons (ps_fld (pv 0) (pv 8) rfl)
  (pss_cons (ps_fld (pv 0) (pv 9) rfl)
  (pss_one (ps_fld (pv 0) (pv 10) rfl)))))))))), ?_⟩
  refine ⟨_, rfl, _, rfl, x, CR, dx, _, rfl, hx, T.c_Recording.cl, T.n_Recording_name, (by show 0 < 1000; decide), ?_⟩
  rw [put_nil]
  refine ⟨_, rfl, _, rfl, x, CR, dx, _, rfl, upd_same, T.c_Recording.cl, T.n_Recording_satellite, (by show 1 < 1000; decide), ?_⟩
  rw [upd_upd]
  rw [put_miss (by decide +kernel)]
  rw [put_nil]
  refine ⟨_, rfl, _, rfl, x, CR, dx, _, rfl, upd_same, T.c_Recording.cl, T.n_Recording_earliest, (by show 2 < 1000; decide), ?_⟩
  rw [upd_upd]
  rw [put_miss (by decide +kernel)]
  rw [put_miss (by decide +kernel)]
  rw [put_nil]
  refine ⟨_, rfl, _, rfl, x, CR, dx, _, rfl, upd_same, T.c_Recording.cl, T.n_Recording_latest, (by show 3 < 1000; decide), ?_⟩
  rw [upd_upd]
  rw [put_miss (by decide +kernel)]
  rw [put_miss (by decide +kernel)]
  rw [put_miss (by decide +kernel)]
  rw [put_nil]
  refine ⟨_, rfl, _, rfl, x, CR, dx, _, rfl, upd_same, T.c_Recording.cl, T.n_Recording_length, (by show 4 < 1000; decide), ?_⟩
  rw [upd_upd]
  rw [put_miss (by decide +kernel)]
  rw [put_miss (by decide +kernel)]
  rw [put_miss (by decide +kernel)]
  rw [put_miss (by decide +kernel)]
  rw [put_nil]
  refine ⟨_, rfl, _, rfl, x, CR, dx, _, rfl, upd_same, T.c_Recording.cl, T.n_Recording_size, (by show 5 < 1000; decide), ?_⟩
  rw [upd_upd]
  rw [put_miss (by decide +kernel)]
  rw [put_miss (by decide +kernel)]
  rw [put_miss (by decide +kernel)]
  rw [put_miss (by decide +kernel)]
  rw [put_miss (by decide +kernel)]
  rw [put_nil]
  refine ⟨_, rfl, _, rfl, x, CR, dx, _, rfl, upd_same, T.c_Recording.cl, T.n_Recording_energy, (by show 6 < 1000; decide), ?_⟩
  rw [upd_upd]
  rw [put_miss (by decide +kernel)]
  rw [put_miss (by decide +kernel)]
  rw [put_miss (by decide +kernel)]
  rw [put_miss (by decide +kernel)]
  rw [put_miss (by decide +kernel)]
  rw [put_miss (by decide +kernel)]
  rw [put_nil]
  refine ⟨_, rfl, _, rfl, x, CR, dx, _, rfl, upd_same, T.c_Recording.cl, T.n_Recording_worth, (by show 7 < 1000; decide), ?_⟩
  rw [upd_upd]
  rw [put_miss (by decide +kernel)]
  rw [put_miss (by decide +kernel)]
  rw [put_miss (by decide +kernel)]
  rw [put_miss (by decide +kernel)]
  rw [put_miss (by decide +kernel)]
  rw [put_miss (by decide +kernel)]
  rw [put_miss (by decide +kernel)]
  rw [put_nil]
  refine ⟨_, rfl, _, rfl, x, CR, dx, _, rfl, upd_same, T.c_Recording.cl, T.n_Recording_rank, (by show 8 < 1000; decide), ?_⟩
  rw [upd_upd]
  rw [put_miss (by decide +kernel)]
  rw [put_miss (by decide +kernel)]
  rw [put_miss (by decide +kernel)]
  rw [put_miss (by decide +kernel)]
  rw [put_miss (by decide +kernel)]
  rw [put_miss (by decide +kernel)]
  rw [put_miss (by decide +kernel)]
  rw [put_miss (by decide +kernel)]
  rw [put_nil]
  refine ⟨_, rfl, _, rfl, x, CR, dx, _, rfl, upd_same, T.c_Recording.cl, T.n_Recording_deadline, (by show 9 < 1000; decide), ?_⟩
  rw [upd_upd]
  rw [put_miss (by decide +kernel)]
  rw [put_miss (by decide +kernel)]
  rw [put_miss (by decide +kernel)]
  rw [put_miss (by decide +kernel)]
  rw [put_miss (by decide +kernel)]
  rw [put_miss (by decide +kernel)]
  rw [put_miss (by decide +kernel)]
  rw [put_miss (by decide +kernel)]
  rw [put_miss (by decide +kernel)]
  rw [put_nil]
  exact q
def spI_Pass (C : Addr) : Sp := fun vs H Q _ => ∃ (x dx : Addr) (v0 v1 v2 v3 v4 v5 v6 : V), vs = [.ref x, v0, v1, v2, v3, v4, v5, v6] ∧ H x = some (.ins C dx []) ∧
  Q .non (upd H x (.ins C dx [("name", v0), ("satellite", v1), ("station", v2), ("span", v3), ("room", v4), ("energy", v5), ("fee", v6)]))
theorem dI_Pass (T : TxtW K mg CL CS CT CR CP CW aS aR fS fT fR fP) (A : MAt K CP "__init__" "Pass.__init__" s_Pass___init__ ["self", "name", "satellite", "station", "span", "room", "energy", "fee"]) : MDef P w K mg base CX0 1 CP "__init__" ["self", "name", "satellite", "station", "span", "room", "energy", "fee"] [] (spI_Pass CP) := by
  refine A.ok sc_Pass___init__ (fun vs H Q E h => ?_) (fun f cdv A outer s H vs Q E hr h => ?_)
  · obtain ⟨x, dx, v0, v1, v2, v3, v4, v5, v6, rfl, _⟩ := h
    rfl
  obtain ⟨x, dx, v0, v1, v2, v3, v4, v5, v6, rfl, hx, q⟩ := h
  refine ⟨_, pss_cons (ps_fld (pv 0) (pv 1) rfl)
  (pss_cons (ps_fld (pv 0) (pv 2) rfl)
  (pss_cons (ps_fld (pv 0) (pv 3) rfl)
  (pss_cons (ps_fld (pv 0) (pv 4) rfl)
  (pss_cons (ps_fld (pv 0) (pv 5) rfl)
  (pss_cons (ps_fld (pv 0) (pv 6) rfl)
  (pss_one (ps_fld (pv 0) (pv 7) rfl))))))), ?_⟩
  refine ⟨_, rfl, _, rfl, x, CP, dx, _, rfl, hx, T.c_Pass.cl, T.n_Pass_name, (by show 0 < 1000; decide), ?_⟩
  rw [put_nil]
  refine ⟨_, rfl, _, rfl, x, CP, dx, _, rfl, upd_same, T.c_Pass.cl, T.n_Pass_satellite, (by show 1 < 1000; decide), ?_⟩
  rw [upd_upd]
  rw [put_miss (by decide +kernel)]
  rw [put_nil]
  refine ⟨_, rfl, _, rfl, x, CP, dx, _, rfl, upd_same, T.c_Pass.cl, T.n_Pass_station, (by show 2 < 1000; decide), ?_⟩
  rw [upd_upd]
  rw [put_miss (by decide +kernel)]
  rw [put_miss (by decide +kernel)]
  rw [put_nil]
  refine ⟨_, rfl, _, rfl, x, CP, dx, _, rfl, upd_same, T.c_Pass.cl, T.n_Pass_span, (by show 3 < 1000; decide), ?_⟩
  rw [upd_upd]
  rw [put_miss (by decide +kernel)]
  rw [put_miss (by decide +kernel)]
  rw [put_miss (by decide +kernel)]
  rw [put_nil]
  refine ⟨_, rfl, _, rfl, x, CP, dx, _, rfl, upd_same, T.c_Pass.cl, T.n_Pass_room, (by show 4 < 1000; decide), ?_⟩
  rw [upd_upd]
  rw [put_miss (by decide +kernel)]
  rw [put_miss (by decide +kernel)]
  rw [put_miss (by decide +kernel)]
  rw [put_miss (by decide +kernel)]
  rw [put_nil]
  refine ⟨_, rfl, _, rfl, x, CP, dx, _, rfl, upd_same, T.c_Pass.cl, T.n_Pass_energy, (by show 5 < 1000; decide), ?_⟩
  rw [upd_upd]
  rw [put_miss (by decide +kernel)]
  rw [put_miss (by decide +kernel)]
  rw [put_miss (by decide +kernel)]
  rw [put_miss (by decide +kernel)]
  rw [put_miss (by decide +kernel)]
  rw [put_nil]
  refine ⟨_, rfl, _, rfl, x, CP, dx, _, rfl, upd_same, T.c_Pass.cl, T.n_Pass_fee, (by show 6 < 1000; decide), ?_⟩
  rw [upd_upd]
  rw [put_miss (by decide +kernel)]
  rw [put_miss (by decide +kernel)]
  rw [put_miss (by decide +kernel)]
  rw [put_miss (by decide +kernel)]
  rw [put_miss (by decide +kernel)]
  rw [put_miss (by decide +kernel)]
  rw [put_nil]
  exact q
def spLight (K : PySem.W.Frag) (CL : Addr) : Sp := fun vs H Q _ => ∃ (a : Addr) (ws : List Str) (r : Nat) (h : Int) (l : List (Int × Int)), vs = [.ref a, .int h] ∧ LnAt CL H a ws r ∧ r ≤ ws.length ∧ ws.drop r = lightW l ∧ LightOk 0 h l ∧ h ≤ 500 ∧ 0 ≤ h ∧
  ∀ t ls H', SameX a H H' → LnAt CL H' a ws ws.length → H' t = some (.tup ls) → Spans K H' ls l → Q (.ref t) H'
theorem drop_head {ws : List Str} {r : Nat} {u : Str} {t : List Str} (h : ws.drop r = u :: t) : ws[r]? = some u ∧ ws.drop (r + 1) = t := by
  have h1 : (ws.drop r)[0]? = some u := by rw [h]; rfl
  rw [List.getElem?_drop, Nat.add_zero] at h1
  refine ⟨h1, ?_⟩
  have h2 : (ws.drop r).drop 1 = t := by rw [h]; rfl
  rw [List.drop_drop] at h2
  exact h2
theorem drop_nil {ws : List Str} {r : Nat} (h : ws.drop r = []) : ws.length ≤ r := List.drop_eq_nil_iff.mp h
theorem d_read_light (T : TxtW K mg CL CS CT CR CP CW aS aR fS fT fR fP) (D_Line_has_more : MDef P w K mg base CX0 1 CL "has_more" ["self"] [] (spHasMore CL)) (D_Line_read_number : MDef P w K mg base CX0 3 CL "read_number" ["self", "least", "most"] [] (spNumber CL))
    (A : At K mg "read_light" s_read_light ["line", "horizon"]) : DefOk P w K mg base CX0 4 "read_light" ["line", "horizon"] (spLight K CL) := by
  have TW := T
  have T := T.L
  have B := T.B
  refine A.ok sc_read_light (fun vs H Q E h => ?_) (fun f cdv A outer s H vs Q E hr h => ?_)
  · obtain ⟨a, ws, r, h, l, rfl, _⟩ := h
    rfl
  obtain ⟨a, ws, r, h, l, rfl, hL, hrl, hd, hok, hh, hh0, q⟩ := h
  refine ⟨_, pss_cons (ps_set (i := 2) sc_read_light.nd rfl (Or.inl rfl) (pe_lst pa_nil))
  (pss_cons (ps_set (i := 3) sc_read_light.nd rfl (Or.inl rfl) pe_int)
  (pss_cons (ps_while PassesOwn.never (pt_val (pe_m0 D_Line_has_more T.c_Line.cl (hr.mono (by omega)) pass0 (pv 0)))
      (pss_cons (ps_set (i := 4) sc_read_light.nd rfl (Or.inl rfl) (pe_m D_Line_read_number T.c_Line.cl (hr.mono (by omega)) pass0 (pv 0) (pa_cons (pv 3) (pa_cons (pe_op op_sub (pv 1) pe_int) pa_nil))))
      (pss_cons (ps_set (i := 3) sc_read_light.nd rfl (Or.inl rfl) (pe_m D_Line_read_number T.c_Line.cl (hr.mono (by omega)) pass0 (pv 0) (pa_cons (pe_op op_add (pv 4) pe_int) (pa_cons (pv 1) pa_nil))))
      (pss_one (ps_expr (pe_bm PySem.F.plainAttrs_list PySem.F.slot_list_append PySem.F.type_list_append mt_append (pv 2) (pa_cons (pe_tup (pa_cons (pv 4) (pa_cons (pv 3) pa_nil))) pa_nil)))))))
  (pss_one (ps_ret (pe_callTy (call_tuple_of) (by rfl) B.tuple (by decide +kernel) (pa_cons (pv 2) pa_nil))))))
    , ?_⟩
  have no : ∀ {H' : Hp} {k : Nat}, LnAt CL H' a ws k → ∀ {m : Str}, (m == ("number" : Str)) = false → (m == ("words" : Str)) = false → (m == ("read" : Str)) = false → (m == ("column" : Str)) = false → ∃ dx fs, H' a = some (.ins CL dx fs) ∧ fs.lookup m = none := fun {H' k} hx {m} z1 z2 z3 z4 => by
    obtain ⟨dx, n, wl, c, h1, h2⟩ := hx.ex
    exact ⟨dx, _, h1, lnF_no z1 z2 z3 z4⟩
  refine ⟨Nat.zero_le _, fun L hLn => ?_⟩
  have eaL : a ≠ L := by
    obtain ⟨dx, n, wl, c, h1, h2⟩ := hL.ex
    exact ne_of_none h1 hLn
  refine ⟨fun n σ H' => ∃ (l1 l2 : List (Int × Int)) (ls : List V) (k : Nat) (le : Int) (y4 : Option V), n = l2.length ∧ l = l1 ++ l2 ∧ ws.drop k = lightW l2 ∧ k ≤ ws.length ∧ LightOk le h l2 ∧ 0 ≤ le ∧ l1.length ≤ 500 ∧ (l1.length : Int) ≤ le ∧
    σ = [some (.ref a), some (.int h), some (.ref L), some (.int le), y4] ∧ H' L = some (.lst ls) ∧ Spans K H' ls l1 ∧ LnAt CL H' a ws k ∧ SameX a H H', ⟨_, [], l, [], r, 0, none, rfl, rfl, hd, hrl, hok, Int.le_refl 0, Nat.zero_le _, Int.le_refl 0, rfl, upd_same, .nil, hL.same (same_new hLn _), SameX.of (same_new hLn _)⟩, fun n σ H' hI => ?_⟩
  obtain ⟨l1, l2, ls, k, le, y4, rfl, rfl, hdk, hk, hok2, hle, h500, hl1, rfl, hLL, hsp, hLk, hsx⟩ := hI
  obtain ⟨dx, fs, g1, g2⟩ := no hLk (m := "has_more") (by decide +kernel) (by decide +kernel) (by decide +kernel) (by decide +kernel)
  refine ⟨_, rfl, a, dx, fs, rfl, g1, g2, a, ws, k, rfl, hLk, _, rfl, ?_⟩
  cases l2 with
  | nil =>
    have hk2 := drop_nil hdk
    rw [decide_eq_false (by omega)]
    refine ⟨_, rfl, L, _, rfl, .inl ⟨SqL.of hLL, fun t ht => ?_⟩⟩
    rw [List.append_nil] at q
    refine q t ls _ (SameX.trans hsx (SameX.of (same_new ht _))) ?_ upd_same (hsp.same (same_new ht _))
    rw [show ws.length = k by omega]
    exact hLk.same (same_new ht _)
  | cons sp l2 =>
    obtain ⟨o1, o2, o3, o4⟩ := hok2
    obtain ⟨u1, hd1⟩ := drop_head (show ws.drop k = num sp.1 :: num sp.2 :: lightW l2 from hdk)
    obtain ⟨u2, hd2⟩ := drop_head hd1
    have k1 : k < ws.length := (List.getElem?_eq_some_iff.mp u1).1
    have k2 : k + 1 < ws.length := (List.getElem?_eq_some_iff.mp u2).1
    rw [decide_eq_true k1]
    refine ⟨fun σ' H'' => ∃ m, m < (sp :: l2).length ∧ ∃ (l1' l2' : List (Int × Int)) (ls : List V) (k : Nat) (le : Int) (y4 : Option V), m = l2'.length ∧ l1 ++ sp :: l2 = l1' ++ l2' ∧ ws.drop k = lightW l2' ∧ k ≤ ws.length ∧ LightOk le h l2' ∧ 0 ≤ le ∧ l1'.length ≤ 500 ∧ (l1'.length : Int) ≤ le ∧
      σ' = [some (.ref a), some (.int h), some (.ref L), some (.int le), y4] ∧ H'' L = some (.lst ls) ∧ Spans K H'' ls l1' ∧ LnAt CL H'' a ws k ∧ SameX a H H'', fun σ' H'' z => z, ?_⟩
    obtain ⟨dx, fs, g1, g2⟩ := no hLk (m := "read_number") (by decide +kernel) (by decide +kernel) (by decide +kernel) (by decide +kernel)
    refine ⟨_, rfl, a, dx, fs, rfl, g1, g2, _, rfl, _, rfl, _, _, rfl, rfl, a, ws, k, le, h - 1, sp.1, rfl, hLk, u1, by omega, by omega, o1, by omega, fun H1 s1 L1 => ?_⟩
    obtain ⟨dx1, fs1, g1', g2'⟩ := no L1 (m := "read_number") (by decide +kernel) (by decide +kernel) (by decide +kernel) (by decide +kernel)
    refine ⟨_, rfl, a, dx1, fs1, rfl, g1', g2', _, rfl, _, _, rfl, rfl, _, rfl, a, ws, k + 1, sp.1 + 1, h, sp.2, rfl, L1, u2, by omega, by omega, o2, o3, fun H2 s2 L2 => ?_⟩
    obtain ⟨dx2, n2, wl2, c2, g12, _⟩ := L2.ex
    have hL2 : H2 L = some (.lst ls) := s2 _ _ eaL.symm (s1 _ _ eaL.symm hLL)
    have hsp2 := s2.spans g1' (s1.spans g1 hsp)
    refine ⟨_, rfl, .inl ⟨rfl, _, SqL.of hL2⟩, _, rfl, _, rfl, (by show 2 ≤ sizeLine; decide), fun t ht => ?_⟩
    have eLt : L ≠ t := ne_of_none hL2 ht
    have hLt : (upd H2 t (.tup [.int sp.1, .int sp.2])) L = some (.lst ls) := by rw [upd_ne eLt]; exact hL2
    have hlsl := paired_len hsp
    refine ⟨L, ls, .ref t, rfl, rfl, hLt, by rw [hlsl]; exact small1000 (by omega), ?_⟩
    refine ⟨l2.length, by rw [List.length_cons]; omega, l1 ++ [sp], l2, ls ++ [.ref t], k + 2, sp.2, _, rfl, by rw [List.append_assoc]; rfl, hd2, by omega, o4, by omega, by rw [List.length_append, List.length_singleton]; omega, by rw [List.length_append, List.length_singleton]; omega, rfl, upd_same, ?_, ?_, ?_⟩
    · exact Spans.upd (paired_snoc (hsp2.same (same_new ht _)) ⟨t, rfl, SqT.of upd_same⟩) hLt
    · have L2t := L2.same (same_new ht (.tup [.int sp.1, .int sp.2]))
      obtain ⟨dx3, n3, wl3, c3, z1, z2⟩ := L2t.ex
      refine ⟨⟨dx3, n3, wl3, c3, by rw [upd_ne eaL]; exact z1, ?_⟩, L2t.ok⟩
      rw [upd_ne]
      · exact z2
      · intro z
        rw [z, hLt] at z2
        have e : ls = ws.map V.str := HO.lst.inj (Option.some.inj z2)
        cases ws with
        | nil => exact absurd k1 (Nat.not_lt_zero _)
        | cons w wr =>
          rw [e] at hsp
          cases hsp with
          | cons y _ =>
            obtain ⟨_, y1, _⟩ := y
            cases y1
    · exact SameX.new hLn (((hsx.trans s1).trans s2).trans (SameX.of (same_new ht _)))
/-- the names of a sort's things -/
def NamesAt (K : PySem.W.Frag) (H : Hp) (th : Addr) (i : Nat) (ns : List Str) : Prop := ∃ (ls : List Addr) (l : Addr) (xs : List V), SqT K H th (ls.map V.ref) ∧ ls[i]? = some l ∧ SqL K H l xs ∧ Paired (Named K H) xs ns ∧ ns.length ≤ 100
theorem NamesAt.same {K : PySem.W.Frag} {H H' : Hp} {th : Addr} {i : Nat} {ns : List Str} (h : NamesAt K H th i ns) (s : Same H H') : NamesAt K H' th i ns := by
  obtain ⟨ls, l, xs, h1, h2, h3, h4, h5⟩ := h
  exact ⟨ls, l, xs, Same.tup s h1, h2, s.seq h3, Paired.mapP h4 fun _ _ z => z.same s, h5⟩
/-- a line is none of the named objects: it has no name -/
theorem SameX.named {K : PySem.W.Frag} {H H' : Hp} {a C dx : Addr} {fs : List (Str × V)} {x : V} {nm : Str} (s : SameX a H H') (ha : H a = some (.ins C dx fs)) (hn : fs.lookup ("name" : Str) = none) (h : Named K H x nm) : Named K H' x nm := by
  obtain ⟨b, D, dy, gs, h1, h2, h3, h4, h5⟩ := h
  refine ⟨b, D, dy, gs, h1, s _ _ (fun z => ?_) h2, h3, h4, h5⟩
  rw [z, ha] at h2
  injection h2 with h2
  injection h2 with z1 z2 z3
  rw [← z3, hn] at h5
  cases h5
theorem NamesAt.sameX {K : PySem.W.Frag} {CL : Addr} {H H' : Hp} {a : Addr} {ws : List Str} {r : Nat} {th : Addr} {i : Nat} {ns : List Str} (h : NamesAt K H th i ns) (hL : LnAt CL H a ws r) (s : SameX a H H') : NamesAt K H' th i ns := by
  obtain ⟨ls, l, xs, h1, h2, h3, h4, h5⟩ := h
  obtain ⟨dx, n, wl, c, g1, g2⟩ := hL.ex
  exact ⟨ls, l, xs, s.sqT g1 h1, h2, s.sqL g1 h3, Paired.mapP h4 fun _ _ z => s.named g1 (lnF_no (by decide +kernel) (by decide +kernel) (by decide +kernel) (by decide +kernel)) z, h5⟩
theorem le_min2 {n i j : Int} (h1 : n ≤ i) (h2 : n ≤ j) : n ≤ (if j < i then j else i) := by split <;> assumption
theorem LnAt.no {C : Addr} {H : Hp} {a : Addr} {ws : List Str} {r : Nat} (h : LnAt C H a ws r) {m : Str} (z1 : (m == ("number" : Str)) = false) (z2 : (m == ("words" : Str)) = false) (z3 : (m == ("read" : Str)) = false) (z4 : (m == ("column" : Str)) = false) :
    ∃ dx fs, H a = some (.ins C dx fs) ∧ fs.lookup m = none := by
  obtain ⟨dx, n, wl, c, h1, h2⟩ := h.ex
  exact ⟨dx, _, h1, lnF_no z1 z2 z3 z4⟩
theorem SameX.free {a x : Addr} {H H' : Hp} {o : HO} (s : SameX a H H') (ha : H' a = some o) (h : H' x = none) : H x = none := by
  cases q : H x with
  | none => rfl
  | some u =>
    by_cases e : x = a
    · rw [e, ha] at h; cases h
    · rw [s x u e q] at h; cases h
theorem LnAt.there {C : Addr} {H : Hp} {a : Addr} {ws : List Str} {r : Nat} (h : LnAt C H a ws r) : ∃ o, H a = some o := by
  obtain ⟨dx, n, wl, c, h1, h2⟩ := h.ex
  exact ⟨_, h1⟩
theorem same_made {H : Hp} {x dx : Addr} {o u v : HO} (hx : H x = none) (hd : H dx = none) : Same H (upd (upd (upd H dx o) x u) x v) := fun b z e => by
  have n1 : b ≠ x := ne_of_none e hx
  rw [upd_ne n1, upd_ne n1, upd_ne (ne_of_none e hd)]
  exact e
def spRdSat (K : PySem.W.Frag) (CL CS : Addr) : Sp := fun vs H Q _ => ∃ (a : Addr) (h : Int) (th : Addr) (s : SatD) (ns : List Str), vs = [.ref a, .int h, .ref th] ∧ LnAt CL H a (wSat s) 1 ∧ NamesAt K H th 0 ns ∧ s.name ∉ ns ∧ SatOk h s ∧ 1 ≤ h ∧ h ≤ 500 ∧
  ∀ b H', H b = none → SameX a H H' → LnAt CL H' a (wSat s) (wSat s).length → SatAt K CS H' (.ref b) s → Q (.ref b) H'
theorem d_read_satellite (T : TxtW K mg CL CS CT CR CP CW aS aR fS fT fR fP) (D_names_of : DefOk P w K mg base CX0 1 "names_of" ["things"] (spNames K)) (D_Line_read_new_name : MDef P w K mg base CX0 4 CL "read_new_name" ["self", "used"] [] (spNewName K CL))
    (D_Line_read_field : MDef P w K mg base CX0 4 CL "read_field" ["self", "word", "least", "most"] [] (spField CL)) (D_Line_read_choice : MDef P w K mg base CX0 3 CL "read_choice" ["self", "choices"] [] (spChoice K CL))
    (D_read_light : DefOk P w K mg base CX0 4 "read_light" ["line", "horizon"] (spLight K CL)) (DI_Satellite : MDef P w K mg base CX0 1 CS "__init__" ["self", "name", "store", "battery", "start_level", "reserve", "charge", "settle", "light"] [] (spI_Satellite CS))
    (A : At K mg "read_satellite" s_read_satellite ["line", "horizon", "things"]) : DefOk P w K mg base CX0 5 "read_satellite" ["line", "horizon", "things"] (spRdSat K CL CS) := by
  have B := T.L.B
  refine A.ok sc_read_satellite (fun vs H Q E h => ?_) (fun f cdv A outer s H vs Q E hr h => ?_)
  · obtain ⟨a, h, th, s, ns, rfl, _⟩ := h
    rfl
  obtain ⟨a, h, th, sd, ns, rfl, hL, hN, hno, ok, hh, hh5, q⟩ := h
  refine ⟨_, pss_cons (ps_set (i := 3) sc_read_satellite.nd rfl (Or.inl rfl) (pe_m D_Line_read_new_name T.c_Line.cl (hr.mono (by omega)) pass0 (pv 0) (pa_cons (pe_f D_names_of (hr.mono (by omega)) pass0 (pa_cons (pe_ix ix_tup (pv 2) (pe_gi T.g_SATELLITES) (fun _ _ => rfl)) pa_nil)) pa_nil)))
  (pss_cons (ps_set (i := 4) sc_read_satellite.nd rfl (Or.inl rfl) (pe_m D_Line_read_field T.c_Line.cl (hr.mono (by omega)) pass0 (pv 0) (pa_cons pe_str (pa_cons pe_int (pa_cons (pe_gi T.g_MOST_UNITS) pa_nil)))))
  (pss_cons (ps_set (i := 5) sc_read_satellite.nd rfl (Or.inl rfl) (pe_m D_Line_read_field T.c_Line.cl (hr.mono (by omega)) pass0 (pv 0) (pa_cons pe_str (pa_cons pe_int (pa_cons (pe_gi T.g_MOST_UNITS) pa_nil)))))
  (C8.pss_cut (ps_set (i := 6) sc_read_satellite.nd rfl (Or.inl rfl) (pe_m D_Line_read_field T.c_Line.cl (hr.mono (by omega)) pass0 (pv 0) (pa_cons pe_str (pa_cons pe_int (pa_cons (pv 5) pa_nil)))))
  (pss_cons (ps_set (i := 7) sc_read_satellite.nd rfl (Or.inl rfl) (pe_m D_Line_read_field T.c_Line.cl (hr.mono (by omega)) pass0 (pv 0) (pa_cons pe_str (pa_cons pe_int (pa_cons (pv 6) pa_nil)))))
  (pss_cons (ps_set (i := 8) sc_read_satellite.nd rfl (Or.inl rfl) (pe_m D_Line_read_field T.c_Line.cl (hr.mono (by omega)) pass0 (pv 0) (pa_cons pe_str (pa_cons pe_int (pa_cons (pe_gi T.g_MOST_CHARGE) pa_nil)))))
  (pss_cons (ps_set (i := 9) sc_read_satellite.nd rfl (Or.inl rfl) (pe_m D_Line_read_field T.c_Line.cl (hr.mono (by omega)) pass0 (pv 0) (pa_cons pe_str (pa_cons pe_int (pa_cons (pe_gi T.g_MOST_DELAY) pa_nil)))))
  (pss_cons (ps_expr (pe_m D_Line_read_choice T.c_Line.cl (hr.mono (by omega)) pass0 (pv 0) (pa_cons (pe_tup (pa_cons pe_str pa_nil)) pa_nil)))
  (pss_cons (ps_set (i := 10) sc_read_satellite.nd rfl (Or.inl rfl) (pe_f D_read_light (hr.mono (by omega)) pass0 (pa_cons (pv 0) (pa_cons (pv 1) pa_nil))))
  (pss_one (ps_ret (pe_mk DI_Satellite T.c_Satellite (hr.mono (by omega)) pass0 (pa_cons (pv 3) (pa_cons (pv 4) (pa_cons (pv 5) (pa_cons (pv 6) (pa_cons (pv 7) (pa_cons (pv 8) (pa_cons (pv 9) (pa_cons (pv 10) pa_nil)))))))))))))))))))
    , ?_⟩
  have b1 := ok.store; have b2 := ok.battery; have b3 := ok.level; have b4 := ok.reserve; have b5 := ok.charge; have b6 := ok.settle
  obtain ⟨ls, l, xs, t1, t2, t3, t4, t5⟩ := hN
  obtain ⟨_, _, g0, z0⟩ := LnAt.no hL (m := "read_new_name") (by decide +kernel) (by decide +kernel) (by decide +kernel) (by decide +kernel)
  refine ⟨_, rfl, a, _, _, rfl, g0, z0, _, rfl, th, _, _, .ref l, rfl, rfl, t1, atI_nat (j := 0) (by rw [List.getElem?_map, t2]; rfl), l, xs, ns, rfl, t3, t4, t5, fun p H1 s1 np hp => ?_⟩
  refine ⟨a, _, 1, p, ns, sd.name, rfl, hL.same s1, SqL.of hp, rfl, ok.name, hno, fun H2 s2 L2 => ?_⟩
  (obtain ⟨_, _, g2, z2⟩ := LnAt.no L2 (m := "read_field") (by decide +kernel) (by decide +kernel) (by decide +kernel) (by decide +kernel); refine ⟨_, rfl, a, _, _, rfl, g2, z2, a, _, 2, _, _, _, sd.store, rfl, L2, rfl, rfl, by omega, by omega, by omega, by omega, fun H3 s3 L3 => ?_⟩)
  (obtain ⟨_, _, g3, z3⟩ := LnAt.no L3 (m := "read_field") (by decide +kernel) (by decide +kernel) (by decide +kernel) (by decide +kernel); refine ⟨_, rfl, a, _, _, rfl, g3, z3, a, _, 4, _, _, _, sd.battery, rfl, L3, rfl, rfl, by omega, by omega, by omega, by omega, fun H4 s4 L4 => ?_⟩)
  refine ⟨fun σ' H' => σ' = [some (.ref a), some (.int h), some (.ref th), some (.str sd.name), some (.int sd.store), some (.int sd.battery), some (.int sd.level), none, none, none, none] ∧ SameX a H H' ∧ LnAt CL H' a (wSat sd) 8, ?_, fun σ' H5 hm => ?_⟩
  · (obtain ⟨_, _, g4, z4⟩ := LnAt.no L4 (m := "read_field") (by decide +kernel) (by decide +kernel) (by decide +kernel) (by decide +kernel); refine ⟨_, rfl, a, _, _, rfl, g4, z4, _, rfl, a, _, 6, _, _, _, sd.level, rfl, L4, rfl, rfl, by omega, by omega, by omega, by omega, fun H5 s5 L5 => ?_⟩)
    exact ⟨rfl, ((((SameX.of s1).trans s2).trans s3).trans s4).trans s5, L5⟩
  obtain ⟨rfl, s05, L5⟩ := hm
  (obtain ⟨_, _, g5, z5⟩ := LnAt.no L5 (m := "read_field") (by decide +kernel) (by decide +kernel) (by decide +kernel) (by decide +kernel); refine ⟨_, rfl, a, _, _, rfl, g5, z5, _, rfl, a, _, 8, _, _, _, sd.reserve, rfl, L5, rfl, rfl, by omega, by omega, by omega, by omega, fun H6 s6 L6 => ?_⟩)
  (obtain ⟨_, _, g6, z6⟩ := LnAt.no L6 (m := "read_field") (by decide +kernel) (by decide +kernel) (by decide +kernel) (by decide +kernel); refine ⟨_, rfl, a, _, _, rfl, g6, z6, a, _, 10, _, _, _, sd.charge, rfl, L6, rfl, rfl, by omega, by omega, by omega, by omega, fun H7 s7 L7 => ?_⟩)
  (obtain ⟨_, _, g7, z7⟩ := LnAt.no L7 (m := "read_field") (by decide +kernel) (by decide +kernel) (by decide +kernel) (by decide +kernel); refine ⟨_, rfl, a, _, _, rfl, g7, z7, a, _, 12, _, _, _, sd.settle, rfl, L7, rfl, rfl, by omega, by omega, by omega, by omega, fun H8 s8 L8 => ?_⟩)
  obtain ⟨_, _, g8, z8⟩ := LnAt.no L8 (m := "read_choice") (by decide +kernel) (by decide +kernel) (by decide +kernel) (by decide +kernel)
  refine ⟨_, rfl, a, _, _, rfl, g8, z8, (by show 1 ≤ sizeLine; decide), fun t ht => ?_⟩
  refine ⟨a, _, 14, t, [Str.ofString "light"], Str.ofString "light", rfl, L8.same (same_new ht _), SqT.of upd_same, rfl, List.mem_cons_self, fun H9 s9 L9 => ?_⟩
  refine ⟨_, rfl, _, rfl, a, _, 15, h, sd.light, rfl, L9, by unfold wSat; rw [List.length_append]; exact Nat.le_add_right 15 _, rfl, ok.light, hh5, by omega, fun t ls' H10 s10 L10 htt hsp => ?_⟩
  refine ⟨_, rfl, _, rfl, _, rfl, _, rfl, _, rfl, _, rfl, _, rfl, _, rfl, fun x dx hx hdx ne => ?_⟩
  refine ⟨x, dx, _, _, _, _, _, _, _, _, rfl, upd_same, rfl, ?_⟩
  have sA : SameX a H H10 := ((((s05.trans s6).trans s7).trans s8).trans (SameX.of (same_new ht _))).trans (s9.trans s10)
  have sB := same_made (o := .own x) (u := .ins CS dx []) (v := .ins CS dx (satF sd t)) hx hdx
  obtain ⟨o, ho⟩ := L10.there
  refine q x _ (sA.free ho hx) (sA.trans (SameX.of sB)) (L10.same sB) ⟨x, dx, t, ls', rfl, upd_same, SqT.of (sB _ _ htt), hsp.same sB⟩
def spRdSta (K : PySem.W.Frag) (CL CT : Addr) : Sp := fun vs H Q _ => ∃ (a : Addr) (h : Int) (th : Addr) (s : StaD) (ns : List Str), vs = [.ref a, .int h, .ref th] ∧ LnAt CL H a (wSta s) 1 ∧ NamesAt K H th 1 ns ∧ s.name ∉ ns ∧ StaOk s ∧
  ∀ b H', H b = none → SameX a H H' → LnAt CL H' a (wSta s) (wSta s).length → StaAt CT H' (.ref b) s → Q (.ref b) H'
theorem d_read_station (T : TxtW K mg CL CS CT CR CP CW aS aR fS fT fR fP) (D_names_of : DefOk P w K mg base CX0 1 "names_of" ["things"] (spNames K)) (D_Line_read_new_name : MDef P w K mg base CX0 4 CL "read_new_name" ["self", "used"] [] (spNewName K CL))
    (D_Line_read_field : MDef P w K mg base CX0 4 CL "read_field" ["self", "word", "least", "most"] [] (spField CL)) (DI_Station : MDef P w K mg base CX0 1 CT "__init__" ["self", "name", "antennas", "turn"] [] (spI_Station CT))
    (A : At K mg "read_station" s_read_station ["line", "_", "things"]) : DefOk P w K mg base CX0 5 "read_station" ["line", "_", "things"] (spRdSta K CL CT) := by
  have B := T.L.B
  refine A.ok sc_read_station (fun vs H Q E h => ?_) (fun f cdv A outer s H vs Q E hr h => ?_)
  · obtain ⟨a, h, th, s, ns, rfl, _⟩ := h
    rfl
  obtain ⟨a, h, th, sd, ns, rfl, hL, hN, hno, ok, q⟩ := h
  refine ⟨_, pss_cons (ps_set (i := 3) sc_read_station.nd rfl (Or.inl rfl) (pe_m D_Line_read_new_name T.c_Line.cl (hr.mono (by omega)) pass0 (pv 0) (pa_cons (pe_f D_names_of (hr.mono (by omega)) pass0 (pa_cons (pe_ix ix_tup (pv 2) (pe_gi T.g_STATIONS) (fun _ _ => rfl)) pa_nil)) pa_nil)))
  (pss_cons (ps_set (i := 4) sc_read_station.nd rfl (Or.inl rfl) (pe_m D_Line_read_field T.c_Line.cl (hr.mono (by omega)) pass0 (pv 0) (pa_cons pe_str (pa_cons pe_int (pa_cons (pe_gi T.g_MOST_ANTENNAS) pa_nil)))))
  (pss_cons (ps_set (i := 5) sc_read_station.nd rfl (Or.inl rfl) (pe_m D_Line_read_field T.c_Line.cl (hr.mono (by omega)) pass0 (pv 0) (pa_cons pe_str (pa_cons pe_int (pa_cons (pe_gi T.g_MOST_DELAY) pa_nil)))))
  (pss_one (ps_ret (pe_mk DI_Station T.c_Station (hr.mono (by omega)) pass0 (pa_cons (pv 3) (pa_cons (pv 4) (pa_cons (pv 5) pa_nil))))))))
    , ?_⟩
  have b1 := ok.antennas; have b2 := ok.turn
  obtain ⟨ls, l, xs, t1, t2, t3, t4, t5⟩ := hN
  obtain ⟨_, _, g0, z0⟩ := LnAt.no hL (m := "read_new_name") (by decide +kernel) (by decide +kernel) (by decide +kernel) (by decide +kernel)
  refine ⟨_, rfl, a, _, _, rfl, g0, z0, _, rfl, th, _, _, .ref l, rfl, rfl, t1, atI_nat (j := 1) (by rw [List.getElem?_map, t2]; rfl), l, xs, ns, rfl, t3, t4, t5, fun p H1 s1 np hp => ?_⟩
  refine ⟨a, _, 1, p, ns, sd.name, rfl, hL.same s1, SqL.of hp, rfl, ok.name, hno, fun H2 s2 L2 => ?_⟩
  (obtain ⟨_, _, g2, z2⟩ := LnAt.no L2 (m := "read_field") (by decide +kernel) (by decide +kernel) (by decide +kernel) (by decide +kernel); refine ⟨_, rfl, a, _, _, rfl, g2, z2, a, _, 2, _, _, _, sd.antennas, rfl, L2, rfl, rfl, by omega, by omega, by omega, by omega, fun H3 s3 L3 => ?_⟩)
  (obtain ⟨_, _, g3, z3⟩ := LnAt.no L3 (m := "read_field") (by decide +kernel) (by decide +kernel) (by decide +kernel) (by decide +kernel); refine ⟨_, rfl, a, _, _, rfl, g3, z3, a, _, 4, _, _, _, sd.turn, rfl, L3, rfl, rfl, by omega, by omega, by omega, by omega, fun H10 s4 L10 => ?_⟩)
  refine ⟨_, rfl, _, rfl, _, rfl, fun x dx hx hdx ne => ?_⟩
  refine ⟨x, dx, _, _, _, rfl, upd_same, rfl, ?_⟩
  have sA : SameX a H H10 := (((SameX.of s1).trans s2).trans s3).trans s4
  have sB := same_made (o := .own x) (u := .ins CT dx []) (v := .ins CT dx (staF sd)) hx hdx
  obtain ⟨o, ho⟩ := L10.there
  exact q x _ (sA.free ho hx) (sA.trans (SameX.of sB)) (L10.same sB) ⟨x, dx, rfl, upd_same⟩
def spRdRec (K : PySem.W.Frag) (CL CR : Addr) : Sp := fun vs H Q _ => ∃ (a : Addr) (th : Addr) (W : WorldD) (s : RecD) (ns : List Str), vs = [.ref a, .int W.horizon, .ref th] ∧ LnAt CL H a (wRec W s) 1 ∧ NamesAt K H th 2 ns ∧ NamesAt K H th 0 (W.sats.map (·.name)) ∧ s.name ∉ ns ∧ WorldOk W ∧ RecOk W s ∧
  ∀ b H', H b = none → SameX a H H' → LnAt CL H' a (wRec W s) (wRec W s).length → RecAt CR H' (.ref b) s → Q (.ref b) H'
theorem d_read_recording (T : TxtW K mg CL CS CT CR CP CW aS aR fS fT fR fP) (D_names_of : DefOk P w K mg base CX0 1 "names_of" ["things"] (spNames K)) (D_Line_read_new_name : MDef P w K mg base CX0 4 CL "read_new_name" ["self", "used"] [] (spNewName K CL))
    (D_Line_read_field : MDef P w K mg base CX0 4 CL "read_field" ["self", "word", "least", "most"] [] (spField CL)) (D_Line_read_choice : MDef P w K mg base CX0 3 CL "read_choice" ["self", "choices"] [] (spChoice K CL))
    (D_Line_read_known_name : MDef P w K mg base CX0 4 CL "read_known_name" ["self", "names", "least"] [.int 0] (spKnownName K CL))
    (DI_Recording : MDef P w K mg base CX0 1 CR "__init__" ["self", "name", "satellite", "earliest", "latest", "length", "size", "energy", "worth", "rank", "deadline"] [] (spI_Recording CR))
    (A : At K mg "read_recording" s_read_recording ["line", "horizon", "things"]) : DefOk P w K mg base CX0 5 "read_recording" ["line", "horizon", "things"] (spRdRec K CL CR) := by
  have B := T.L.B
  refine A.ok sc_read_recording (fun vs H Q E h => ?_) (fun f cdv A outer s H vs Q E hr h => ?_)
  · obtain ⟨a, th, W, s, ns, rfl, _⟩ := h
    rfl
  obtain ⟨a, th, W, sd, ns, rfl, hL, hN, hS, hno, wok, ok, q⟩ := h
  refine ⟨_, pss_cons (ps_set (i := 3) sc_read_recording.nd rfl (Or.inl rfl) (pe_m D_Line_read_new_name T.c_Line.cl (hr.mono (by omega)) pass0 (pv 0) (pa_cons (pe_f D_names_of (hr.mono (by omega)) pass0 (pa_cons (pe_ix ix_tup (pv 2) (pe_gi T.g_RECORDINGS) (fun _ _ => rfl)) pa_nil)) pa_nil)))
  (pss_cons (ps_expr (pe_m D_Line_read_choice T.c_Line.cl (hr.mono (by omega)) pass0 (pv 0) (pa_cons (pe_tup (pa_cons pe_str pa_nil)) pa_nil)))
  (C8.pss_cut (ps_set (i := 4) sc_read_recording.nd rfl (Or.inl rfl) (pe_m D_Line_read_known_name T.c_Line.cl (hr.mono (by omega)) pass0 (pv 0) (pa_cons (pe_f D_names_of (hr.mono (by omega)) pass0 (pa_cons (pe_ix ix_tup (pv 2) (pe_gi T.g_SATELLITES) (fun _ _ => rfl)) pa_nil)) pa_nil)))
  (pss_cons (ps_set (i := 5) sc_read_recording.nd rfl (Or.inl rfl) (pe_m D_Line_read_field T.c_Line.cl (hr.mono (by omega)) pass0 (pv 0) (pa_cons pe_str (pa_cons pe_int (pa_cons (pe_op op_sub (pv 1) pe_int) pa_nil)))))
  (pss_cons (ps_set (i := 6) sc_read_recording.nd rfl (Or.inl rfl) (pe_m D_Line_read_field T.c_Line.cl (hr.mono (by omega)) pass0 (pv 0) (pa_cons pe_str (pa_cons (pv 5) (pa_cons (pe_callB (call_min2 rfl) (by rfl) B.min (by decide +kernel) (pa_cons (pe_op op_add (pv 5) (ClX.pe_cval (pe_ga T.c_World.gC) rfl)) (pa_cons (pe_op op_sub (pv 1) pe_int) pa_nil))) pa_nil)))))
  (pss_cons (ps_set (i := 7) sc_read_recording.nd rfl (Or.inl rfl) (pe_m D_Line_read_field T.c_Line.cl (hr.mono (by omega)) pass0 (pv 0) (pa_cons pe_str (pa_cons pe_int (pa_cons (pe_op op_sub (pv 1) (pv 6)) pa_nil)))))
  (pss_cons (ps_set (i := 8) sc_read_recording.nd rfl (Or.inl rfl) (pe_m D_Line_read_field T.c_Line.cl (hr.mono (by omega)) pass0 (pv 0) (pa_cons pe_str (pa_cons pe_int (pa_cons (pe_gi T.g_MOST_UNITS) pa_nil)))))
  (pss_cons (ps_set (i := 9) sc_read_recording.nd rfl (Or.inl rfl) (pe_m D_Line_read_field T.c_Line.cl (hr.mono (by omega)) pass0 (pv 0) (pa_cons pe_str (pa_cons pe_int (pa_cons (pe_gi T.g_MOST_UNITS) pa_nil)))))
  (pss_cons (ps_set (i := 10) sc_read_recording.nd rfl (Or.inl rfl) (pe_m D_Line_read_field T.c_Line.cl (hr.mono (by omega)) pass0 (pv 0) (pa_cons pe_str (pa_cons pe_int (pa_cons (pe_gi T.g_MOST_WORTH) pa_nil)))))
  (pss_cons (ps_set (i := 11) sc_read_recording.nd rfl (Or.inl rfl) (pe_m D_Line_read_field T.c_Line.cl (hr.mono (by omega)) pass0 (pv 0) (pa_cons pe_str (pa_cons pe_int (pa_cons (pe_gi T.g_MOST_RANK) pa_nil)))))
  (pss_cons (ps_set (i := 12) sc_read_recording.nd rfl (Or.inl rfl) (pe_m D_Line_read_field T.c_Line.cl (hr.mono (by omega)) pass0 (pv 0) (pa_cons pe_str (pa_cons pe_int (pa_cons (pv 1) pa_nil)))))
  (pss_one (ps_ret (pe_mk DI_Recording T.c_Recording (hr.mono (by omega)) pass0 (pa_cons (pv 3) (pa_cons (pv 4) (pa_cons (pv 5) (pa_cons (pv 6) (pa_cons (pv 7) (pa_cons (pv 8) (pa_cons (pv 9) (pa_cons (pv 10) (pa_cons (pv 11) (pa_cons (pv 12) pa_nil)))))))))))))))))))))))
    , ?_⟩
  have b0 := wok.horizon; have b1 := ok.earliest; have b2 := ok.latest; have b3 := ok.length; have b4 := ok.size; have b5 := ok.energy; have b6 := ok.worth; have b7 := ok.rank; have b8 := ok.deadline
  obtain ⟨ls, l, xs, t1, t2, t3, t4, t5⟩ := hN
  obtain ⟨_, _, g0, z0⟩ := LnAt.no hL (m := "read_new_name") (by decide +kernel) (by decide +kernel) (by decide +kernel) (by decide +kernel)
  refine ⟨_, rfl, a, _, _, rfl, g0, z0, _, rfl, th, _, _, .ref l, rfl, rfl, t1, atI_nat (j := 2) (by rw [List.getElem?_map, t2]; rfl), l, xs, ns, rfl, t3, t4, t5, fun p H1 s1 np hp => ?_⟩
  refine ⟨a, _, 1, p, ns, sd.name, rfl, hL.same s1, SqL.of hp, rfl, ok.name, hno, fun H2 s2 L2 => ?_⟩
  obtain ⟨_, _, g2, z2⟩ := LnAt.no L2 (m := "read_choice") (by decide +kernel) (by decide +kernel) (by decide +kernel) (by decide +kernel)
  refine ⟨_, rfl, a, _, _, rfl, g2, z2, (by show 1 ≤ sizeLine; decide), fun t ht => ?_⟩
  refine ⟨a, _, 2, t, [Str.ofString "by"], Str.ofString "by", rfl, L2.same (same_new ht _), SqT.of upd_same, rfl, List.mem_cons_self, fun H3 s3 L3 => ?_⟩
  have s03 : SameX a H H3 := (((SameX.of s1).trans s2).trans (SameX.of (same_new ht _))).trans s3
  refine ⟨fun σ' H' => σ' = [some (.ref a), some (.int W.horizon), some (.ref th), some (.str sd.name), some (.int (sd.sat : Int)), none, none, none, none, none, none, none, none] ∧ SameX a H H' ∧ LnAt CL H' a (wRec W sd) 4, ?_, fun σ' H5 h => ?_⟩
  · obtain ⟨ls', l', xs', u1, u2, u3, u4, u5⟩ := hS.sameX hL s03
    obtain ⟨_, _, g3, z3⟩ := LnAt.no L3 (m := "read_known_name") (by decide +kernel) (by decide +kernel) (by decide +kernel) (by decide +kernel)
    refine ⟨_, rfl, a, _, _, rfl, g3, z3, _, rfl, th, _, _, .ref l', rfl, rfl, u1, atI_nat (j := 0) (by rw [List.getElem?_map, u2]; rfl), l', xs', _, rfl, u3, u4, u5, fun p2 H4 s4 np2 hp2 => ?_⟩
    refine ⟨a, _, 3, p2, _, satN W sd.sat, sd.sat, 0, rfl, L3.same s4, SqL.of hp2, rfl, satN_ok wok ok.sat, satN_at ok.sat, wok.dSats, by omega, fun H5 s5 L5 => ?_⟩
    exact ⟨rfl, (s03.trans (SameX.of s4)).trans s5, L5⟩
  obtain ⟨rfl, s05, L5⟩ := h
  (obtain ⟨_, _, g5, z5⟩ := LnAt.no L5 (m := "read_field") (by decide +kernel) (by decide +kernel) (by decide +kernel) (by decide +kernel); refine ⟨_, rfl, a, _, _, rfl, g5, z5, _, rfl, _, _, rfl, rfl, a, _, 4, _, _, _, sd.earliest, rfl, L5, rfl, rfl, by omega, by omega, by omega, by omega, fun H6 s6 L6 => ?_⟩)
  obtain ⟨tk, hv⟩ := T.v_MOST_SHIFT
  (obtain ⟨_, _, g6, z6⟩ := LnAt.no L6 (m := "read_field") (by decide +kernel) (by decide +kernel) (by decide +kernel) (by decide +kernel); refine ⟨_, rfl, a, _, _, rfl, g6, z6, _, rfl, _, rfl, CW, _, _, _, rfl, T.rdW, hv, _, _, rfl, rfl, _, rfl, _, _, rfl, rfl, _, _, rfl, a, _, 6, _, _, _, sd.latest, rfl, L6, rfl, rfl, by omega, by omega, by omega, le_min2 (by omega) (by omega), fun H7 s7 L7 => ?_⟩)
  (obtain ⟨_, _, g7, z7⟩ := LnAt.no L7 (m := "read_field") (by decide +kernel) (by decide +kernel) (by decide +kernel) (by decide +kernel); refine ⟨_, rfl, a, _, _, rfl, g7, z7, _, rfl, _, rfl, _, _, rfl, rfl, a, _, 8, _, _, _, sd.length, rfl, L7, rfl, rfl, by omega, by omega, by omega, by omega, fun H8 s8 L8 => ?_⟩)
  (obtain ⟨_, _, g8, z8⟩ := LnAt.no L8 (m := "read_field") (by decide +kernel) (by decide +kernel) (by decide +kernel) (by decide +kernel); refine ⟨_, rfl, a, _, _, rfl, g8, z8, a, _, 10, _, _, _, sd.size, rfl, L8, rfl, rfl, by omega, by omega, by omega, by omega, fun H9 s9 L9 => ?_⟩)
  (obtain ⟨_, _, g9, z9⟩ := LnAt.no L9 (m := "read_field") (by decide +kernel) (by decide +kernel) (by decide +kernel) (by decide +kernel); refine ⟨_, rfl, a, _, _, rfl, g9, z9, a, _, 12, _, _, _, sd.energy, rfl, L9, rfl, rfl, by omega, by omega, by omega, by omega, fun H10 s10 L10 => ?_⟩)
  (obtain ⟨_, _, g10, z10⟩ := LnAt.no L10 (m := "read_field") (by decide +kernel) (by decide +kernel) (by decide +kernel) (by decide +kernel); refine ⟨_, rfl, a, _, _, rfl, g10, z10, a, _, 14, _, _, _, sd.worth, rfl, L10, rfl, rfl, by omega, by omega, by omega, by omega, fun H11 s11 L11 => ?_⟩)
  (obtain ⟨_, _, g11, z11⟩ := LnAt.no L11 (m := "read_field") (by decide +kernel) (by decide +kernel) (by decide +kernel) (by decide +kernel); refine ⟨_, rfl, a, _, _, rfl, g11, z11, a, _, 16, _, _, _, sd.rank, rfl, L11, rfl, rfl, by omega, by omega, by omega, by omega, fun H12 s12 L12 => ?_⟩)
  (obtain ⟨_, _, g12, z12⟩ := LnAt.no L12 (m := "read_field") (by decide +kernel) (by decide +kernel) (by decide +kernel) (by decide +kernel); refine ⟨_, rfl, a, _, _, rfl, g12, z12, _, rfl, a, _, 18, _, _, _, sd.deadline, rfl, L12, rfl, rfl, by omega, by omega, by omega, by omega, fun H13 s13 L13 => ?_⟩)
  refine ⟨_, rfl, _, rfl, _, rfl, _, rfl, _, rfl, _, rfl, _, rfl, _, rfl, _, rfl, _, rfl, fun x dx hx hdx ne => ?_⟩
  refine ⟨x, dx, _, _, _, _, _, _, _, _, _, _, rfl, upd_same, rfl, ?_⟩
  have sA : SameX a H H13 := (((((((s05.trans s6).trans s7).trans s8).trans s9).trans s10).trans s11).trans s12).trans s13
  have sB := same_made (o := .own x) (u := .ins CR dx []) (v := .ins CR dx (recF sd)) hx hdx
  obtain ⟨o, ho⟩ := L13.there
  exact q x _ (sA.free ho hx) (sA.trans (SameX.of sB)) (L13.same sB) ⟨x, dx, rfl, upd_same⟩
def spRdPas (K : PySem.W.Frag) (CL CP : Addr) : Sp := fun vs H Q _ => ∃ (a : Addr) (th : Addr) (W : WorldD) (s : PasD) (ns : List Str), vs = [.ref a, .int W.horizon, .ref th] ∧ LnAt CL H a (wPas W s) 1 ∧ NamesAt K H th 3 ns ∧ NamesAt K H th 0 (W.sats.map (·.name)) ∧ NamesAt K H th 1 (W.stas.map (·.name)) ∧ s.name ∉ ns ∧ WorldOk W ∧ PasOk W s ∧
  ∀ b H', H b = none → SameX a H H' → LnAt CL H' a (wPas W s) (wPas W s).length → PasAt K CP H' (.ref b) s → Q (.ref b) H'
theorem d_read_pass (T : TxtW K mg CL CS CT CR CP CW aS aR fS fT fR fP) (D_names_of : DefOk P w K mg base CX0 1 "names_of" ["things"] (spNames K)) (D_Line_read_new_name : MDef P w K mg base CX0 4 CL "read_new_name" ["self", "used"] [] (spNewName K CL))
    (D_Line_read_field : MDef P w K mg base CX0 4 CL "read_field" ["self", "word", "least", "most"] [] (spField CL)) (D_Line_read_choice : MDef P w K mg base CX0 3 CL "read_choice" ["self", "choices"] [] (spChoice K CL))
    (D_Line_read_known_name : MDef P w K mg base CX0 4 CL "read_known_name" ["self", "names", "least"] [.int 0] (spKnownName K CL))
    (DI_Pass : MDef P w K mg base CX0 1 CP "__init__" ["self", "name", "satellite", "station", "span", "room", "energy", "fee"] [] (spI_Pass CP))
    (A : At K mg "read_pass" s_read_pass ["line", "horizon", "things"]) : DefOk P w K mg base CX0 5 "read_pass" ["line", "horizon", "things"] (spRdPas K CL CP) := by
  have B := T.L.B
  refine A.ok sc_read_pass (fun vs H Q E h => ?_) (fun f cdv A outer s H vs Q E hr h => ?_)
  · obtain ⟨a, th, W, s, ns, rfl, _⟩ := h
    rfl
  obtain ⟨a, th, W, sd, ns, rfl, hL, hN, hS, hT, hno, wok, ok, q⟩ := h
  refine ⟨_, pss_cons (ps_set (i := 3) sc_read_pass.nd rfl (Or.inl rfl) (pe_m D_Line_read_new_name T.c_Line.cl (hr.mono (by omega)) pass0 (pv 0) (pa_cons (pe_f D_names_of (hr.mono (by omega)) pass0 (pa_cons (pe_ix ix_tup (pv 2) (pe_gi T.g_PASSES) (fun _ _ => rfl)) pa_nil)) pa_nil)))
  (pss_cons (ps_expr (pe_m D_Line_read_choice T.c_Line.cl (hr.mono (by omega)) pass0 (pv 0) (pa_cons (pe_tup (pa_cons pe_str pa_nil)) pa_nil)))
  (pss_cons (ps_set (i := 4) sc_read_pass.nd rfl (Or.inl rfl) (pe_m D_Line_read_known_name T.c_Line.cl (hr.mono (by omega)) pass0 (pv 0) (pa_cons (pe_f D_names_of (hr.mono (by omega)) pass0 (pa_cons (pe_ix ix_tup (pv 2) (pe_gi T.g_SATELLITES) (fun _ _ => rfl)) pa_nil)) pa_nil)))
  (pss_cons (ps_expr (pe_m D_Line_read_choice T.c_Line.cl (hr.mono (by omega)) pass0 (pv 0) (pa_cons (pe_tup (pa_cons pe_str pa_nil)) pa_nil)))
  (C8.pss_cut (ps_set (i := 5) sc_read_pass.nd rfl (Or.inl rfl) (pe_m D_Line_read_known_name T.c_Line.cl (hr.mono (by omega)) pass0 (pv 0) (pa_cons (pe_f D_names_of (hr.mono (by omega)) pass0 (pa_cons (pe_ix ix_tup (pv 2) (pe_gi T.g_STATIONS) (fun _ _ => rfl)) pa_nil)) pa_nil)))
  (pss_cons (ps_set (i := 6) sc_read_pass.nd rfl (Or.inl rfl) (pe_m D_Line_read_field T.c_Line.cl (hr.mono (by omega)) pass0 (pv 0) (pa_cons pe_str (pa_cons pe_int (pa_cons (pe_op op_sub (pv 1) pe_int) pa_nil)))))
  (pss_cons (ps_set (i := 7) sc_read_pass.nd rfl (Or.inl rfl) (pe_m D_Line_read_field T.c_Line.cl (hr.mono (by omega)) pass0 (pv 0) (pa_cons pe_str (pa_cons (pe_op op_add (pv 6) pe_int) (pa_cons (pv 1) pa_nil)))))
  (pss_cons (ps_set (i := 8) sc_read_pass.nd rfl (Or.inl rfl) (pe_m D_Line_read_field T.c_Line.cl (hr.mono (by omega)) pass0 (pv 0) (pa_cons pe_str (pa_cons pe_int (pa_cons (pe_gi T.g_MOST_UNITS) pa_nil)))))
  (pss_cons (ps_set (i := 9) sc_read_pass.nd rfl (Or.inl rfl) (pe_m D_Line_read_field T.c_Line.cl (hr.mono (by omega)) pass0 (pv 0) (pa_cons pe_str (pa_cons pe_int (pa_cons (pe_gi T.g_MOST_UNITS) pa_nil)))))
  (pss_cons (ps_set (i := 10) sc_read_pass.nd rfl (Or.inl rfl) (pe_m D_Line_read_field T.c_Line.cl (hr.mono (by omega)) pass0 (pv 0) (pa_cons pe_str (pa_cons pe_int (pa_cons (pe_gi T.g_MOST_FEE) pa_nil)))))
  (pss_one (ps_ret (pe_mk DI_Pass T.c_Pass (hr.mono (by omega)) pass0 (pa_cons (pv 3) (pa_cons (pv 4) (pa_cons (pv 5) (pa_cons (pe_tup (pa_cons (pv 6) (pa_cons (pv 7) pa_nil))) (pa_cons (pv 8) (pa_cons (pv 9) (pa_cons (pv 10) pa_nil)))))))))))))))))))
    , ?_⟩
  have b0 := wok.horizon; have b1 := ok.first; have b2 := ok.fin; have b3 := ok.room; have b4 := ok.energy; have b5 := ok.fee
  obtain ⟨ls, l, xs, t1, t2, t3, t4, t5⟩ := hN
  obtain ⟨_, _, g0, z0⟩ := LnAt.no hL (m := "read_new_name") (by decide +kernel) (by decide +kernel) (by decide +kernel) (by decide +kernel)
  refine ⟨_, rfl, a, _, _, rfl, g0, z0, _, rfl, th, _, _, .ref l, rfl, rfl, t1, atI_nat (j := 3) (by rw [List.getElem?_map, t2]; rfl), l, xs, ns, rfl, t3, t4, t5, fun p H1 s1 np hp => ?_⟩
  refine ⟨a, _, 1, p, ns, sd.name, rfl, hL.same s1, SqL.of hp, rfl, ok.name, hno, fun H2 s2 L2 => ?_⟩
  obtain ⟨_, _, g2, z2⟩ := LnAt.no L2 (m := "read_choice") (by decide +kernel) (by decide +kernel) (by decide +kernel) (by decide +kernel)
  refine ⟨_, rfl, a, _, _, rfl, g2, z2, (by show 1 ≤ sizeLine; decide), fun t ht => ?_⟩
  refine ⟨a, _, 2, t, [Str.ofString "by"], Str.ofString "by", rfl, L2.same (same_new ht _), SqT.of upd_same, rfl, List.mem_cons_self, fun H3 s3 L3 => ?_⟩
  have s03 : SameX a H H3 := (((SameX.of s1).trans s2).trans (SameX.of (same_new ht _))).trans s3
  obtain ⟨ls', l', xs', u1, u2, u3, u4, u5⟩ := hS.sameX hL s03
  obtain ⟨_, _, g3, z3⟩ := LnAt.no L3 (m := "read_known_name") (by decide +kernel) (by decide +kernel) (by decide +kernel) (by decide +kernel)
  refine ⟨_, rfl, a, _, _, rfl, g3, z3, _, rfl, th, _, _, .ref l', rfl, rfl, u1, atI_nat (j := 0) (by rw [List.getElem?_map, u2]; rfl), l', xs', _, rfl, u3, u4, u5, fun p2 H4 s4 np2 hp2 => ?_⟩
  refine ⟨a, _, 3, p2, _, satN W sd.sat, sd.sat, 0, rfl, L3.same s4, SqL.of hp2, rfl, satN_ok wok ok.sat, satN_at ok.sat, wok.dSats, by omega, fun H5 s5 L5 => ?_⟩
  obtain ⟨_, _, g5, z5⟩ := LnAt.no L5 (m := "read_choice") (by decide +kernel) (by decide +kernel) (by decide +kernel) (by decide +kernel)
  refine ⟨_, rfl, a, _, _, rfl, g5, z5, (by show 1 ≤ sizeLine; decide), fun t3 ht3 => ?_⟩
  refine ⟨a, _, 4, t3, [Str.ofString "over"], Str.ofString "over", rfl, L5.same (same_new ht3 _), SqT.of upd_same, rfl, List.mem_cons_self, fun H6 s6 L6 => ?_⟩
  have s06 : SameX a H H6 := (((s03.trans (SameX.of s4)).trans s5).trans (SameX.of (same_new ht3 _))).trans s6
  refine ⟨fun σ' H' => σ' = [some (.ref a), some (.int W.horizon), some (.ref th), some (.str sd.name), some (.int (sd.sat : Int)), some (.int (sd.sta : Int)), none, none, none, none, none] ∧ SameX a H H' ∧ LnAt CL H' a (wPas W sd) 6, ?_, fun σ' H8 h => ?_⟩
  · obtain ⟨ls6, l6, xs6, v1, v2, v3, v4, v5⟩ := hT.sameX hL s06
    obtain ⟨_, _, g6, z6⟩ := LnAt.no L6 (m := "read_known_name") (by decide +kernel) (by decide +kernel) (by decide +kernel) (by decide +kernel)
    refine ⟨_, rfl, a, _, _, rfl, g6, z6, _, rfl, th, _, _, .ref l6, rfl, rfl, v1, atI_nat (j := 1) (by rw [List.getElem?_map, v2]; rfl), l6, xs6, _, rfl, v3, v4, v5, fun p7 H7 s7 np7 hp7 => ?_⟩
    refine ⟨a, _, 5, p7, _, staN W sd.sta, sd.sta, 0, rfl, L6.same s7, SqL.of hp7, rfl, staN_ok wok ok.sta, staN_at ok.sta, wok.dStas, by omega, fun H8 s8 L8 => ?_⟩
    exact ⟨rfl, (s06.trans (SameX.of s7)).trans s8, L8⟩
  obtain ⟨rfl, s08, L8⟩ := h
  (obtain ⟨_, _, g8, z8⟩ := LnAt.no L8 (m := "read_field") (by decide +kernel) (by decide +kernel) (by decide +kernel) (by decide +kernel); refine ⟨_, rfl, a, _, _, rfl, g8, z8, _, rfl, _, _, rfl, rfl, a, _, 6, _, _, _, sd.first, rfl, L8, rfl, rfl, by omega, by omega, by omega, by omega, fun H9 s9 L9 => ?_⟩)
  (obtain ⟨_, _, g9, z9⟩ := LnAt.no L9 (m := "read_field") (by decide +kernel) (by decide +kernel) (by decide +kernel) (by decide +kernel); refine ⟨_, rfl, a, _, _, rfl, g9, z9, _, rfl, _, _, rfl, rfl, _, rfl, a, _, 8, _, _, _, sd.fin, rfl, L9, rfl, rfl, by omega, by omega, by omega, by omega, fun H10 s10 L10 => ?_⟩)
  (obtain ⟨_, _, g10, z10⟩ := LnAt.no L10 (m := "read_field") (by decide +kernel) (by decide +kernel) (by decide +kernel) (by decide +kernel); refine ⟨_, rfl, a, _, _, rfl, g10, z10, a, _, 10, _, _, _, sd.room, rfl, L10, rfl, rfl, by omega, by omega, by omega, by omega, fun H11 s11 L11 => ?_⟩)
  (obtain ⟨_, _, g11, z11⟩ := LnAt.no L11 (m := "read_field") (by decide +kernel) (by decide +kernel) (by decide +kernel) (by decide +kernel); refine ⟨_, rfl, a, _, _, rfl, g11, z11, a, _, 12, _, _, _, sd.energy, rfl, L11, rfl, rfl, by omega, by omega, by omega, by omega, fun H12 s12 L12 => ?_⟩)
  (obtain ⟨_, _, g12, z12⟩ := LnAt.no L12 (m := "read_field") (by decide +kernel) (by decide +kernel) (by decide +kernel) (by decide +kernel); refine ⟨_, rfl, a, _, _, rfl, g12, z12, a, _, 14, _, _, _, sd.fee, rfl, L12, rfl, rfl, by omega, by omega, by omega, by omega, fun H13 s13 L13 => ?_⟩)
  refine ⟨_, rfl, _, rfl, _, rfl, _, rfl, _, rfl, (by show 2 ≤ sizeLine; decide), fun sp hsp => ⟨_, rfl, _, rfl, _, rfl, fun x dx hx hdx ne => ?_⟩⟩
  refine ⟨x, dx, _, _, _, _, _, _, _, rfl, upd_same, rfl, ?_⟩
  have sA : SameX a H (upd H13 sp (.tup [.int sd.first, .int sd.fin])) := (((((s08.trans s9).trans s10).trans s11).trans s12).trans s13).trans (SameX.of (same_new hsp _))
  have sB := same_made (o := .own x) (u := .ins CP dx []) (v := .ins CP dx (pasF sd sp)) hx hdx
  have L14 := L13.same (same_new hsp (.tup [.int sd.first, .int sd.fin]))
  obtain ⟨o, ho⟩ := L14.there
  exact q x _ (sA.free ho hx) (sA.trans (SameX.of sB)) (L14.same sB) ⟨x, dx, sp, rfl, upd_same, SqT.of (sB _ _ upd_same)⟩
end
end DP
namespace DP
open PySem PySem.Spec PyProof.Rows L2
section
variable {K : PySem.W.Frag} {CL CS CT CR CP : Addr} {H H' : Hp} {a L : Addr} {ws : List Str} {r : Nat} {x : V} {ys : List V} {o : HO}
theorem SatAt.same {s : SatD} (h : SatAt K CS H x s) (z : Same H H') : SatAt K CS H' x s := by
  obtain ⟨b, dx, t, ls, h1, h2, h3, h4⟩ := h
  exact ⟨b, dx, t, ls, h1, z _ _ h2, Same.tup z h3, h4.same z⟩
theorem StaAt.same {s : StaD} (h : StaAt CT H x s) (z : Same H H') : StaAt CT H' x s := by
  obtain ⟨b, dx, h1, h2⟩ := h
  exact ⟨b, dx, h1, z _ _ h2⟩
theorem RecAt.same {s : RecD} (h : RecAt CR H x s) (z : Same H H') : RecAt CR H' x s := by
  obtain ⟨b, dx, h1, h2⟩ := h
  exact ⟨b, dx, h1, z _ _ h2⟩
theorem PasAt.same {s : PasD} (h : PasAt K CP H x s) (z : Same H H') : PasAt K CP H' x s := by
  obtain ⟨b, dx, t, h1, h2, h3⟩ := h
  exact ⟨b, dx, t, h1, z _ _ h2, Same.tup z h3⟩
theorem SatAt.sx {s : SatD} (h : SatAt K CS H x s) (hL : LnAt CL H a ws r) (z : SameX a H H') : SatAt K CS H' x s := by
  obtain ⟨dx', n, wl, c, g1, g2⟩ := hL.ex
  obtain ⟨b, dx, t, ls, h1, h2, h3, h4⟩ := h
  exact ⟨b, dx, t, ls, h1, z.ins g1 h2 (by show 8 ≠ 4; decide), z.sqT g1 h3, z.spans g1 h4⟩
theorem StaAt.sx {s : StaD} (h : StaAt CT H x s) (hL : LnAt CL H a ws r) (z : SameX a H H') : StaAt CT H' x s := by
  obtain ⟨dx', n, wl, c, g1, g2⟩ := hL.ex
  obtain ⟨b, dx, h1, h2⟩ := h
  exact ⟨b, dx, h1, z.ins g1 h2 (by show 3 ≠ 4; decide)⟩
theorem RecAt.sx {s : RecD} (h : RecAt CR H x s) (hL : LnAt CL H a ws r) (z : SameX a H H') : RecAt CR H' x s := by
  obtain ⟨dx', n, wl, c, g1, g2⟩ := hL.ex
  obtain ⟨b, dx, h1, h2⟩ := h
  exact ⟨b, dx, h1, z.ins g1 h2 (by show 10 ≠ 4; decide)⟩
theorem PasAt.sx {s : PasD} (h : PasAt K CP H x s) (hL : LnAt CL H a ws r) (z : SameX a H H') : PasAt K CP H' x s := by
  obtain ⟨dx', n, wl, c, g1, g2⟩ := hL.ex
  obtain ⟨b, dx, t, h1, h2, h3⟩ := h
  exact ⟨b, dx, t, h1, z.ins g1 h2 (by show 7 ≠ 4; decide), z.sqT g1 h3⟩
theorem SatAt.up {s : SatD} (h : SatAt K CS H x s) (e : H L = some (.lst ys)) : SatAt K CS (L2.upd H L o) x s := by
  obtain ⟨b, dx, t, ls, h1, h2, h3, h4⟩ := h
  exact ⟨b, dx, t, ls, h1, by rw [upd_ne (ne_of h2 e (fun z => nomatch z))]; exact h2, sqT_upd h3 e, h4.upd e⟩
theorem StaAt.up {s : StaD} (h : StaAt CT H x s) (e : H L = some (.lst ys)) : StaAt CT (L2.upd H L o) x s := by
  obtain ⟨b, dx, h1, h2⟩ := h
  exact ⟨b, dx, h1, by rw [upd_ne (ne_of h2 e (fun z => nomatch z))]; exact h2⟩
theorem RecAt.up {s : RecD} (h : RecAt CR H x s) (e : H L = some (.lst ys)) : RecAt CR (L2.upd H L o) x s := by
  obtain ⟨b, dx, h1, h2⟩ := h
  exact ⟨b, dx, h1, by rw [upd_ne (ne_of h2 e (fun z => nomatch z))]; exact h2⟩
theorem PasAt.up {s : PasD} (h : PasAt K CP H x s) (e : H L = some (.lst ys)) : PasAt K CP (L2.upd H L o) x s := by
  obtain ⟨b, dx, t, h1, h2, h3⟩ := h
  exact ⟨b, dx, t, h1, by rw [upd_ne (ne_of h2 e (fun z => nomatch z))]; exact h2, sqT_upd h3 e⟩
/-- a line stays where a list of objects is changed -/
theorem LnAt.up (h : LnAt CL H a ws r) (hne : ws ≠ []) (e : H L = some (.lst ys)) (hr : ∀ y ∈ ys, ∃ t, y = V.ref t) : LnAt CL (L2.upd H L o) a ws r := by
  obtain ⟨dx, n, wl, c, h1, h2⟩ := h.ex
  refine ⟨⟨dx, n, wl, c, by rw [upd_ne (ne_of h1 e (fun z => nomatch z))]; exact h1, ?_⟩, h.ok⟩
  rw [upd_ne]
  · exact h2
  · intro z
    rw [z, e] at h2
    have e2 : ys = ws.map V.str := HO.lst.inj (Option.some.inj h2)
    cases ws with
    | nil => exact hne rfl
    | cons w wr =>
      obtain ⟨t, ht⟩ := hr (.str w) (by rw [e2]; exact List.mem_cons_self)
      cases ht
theorem LnAt.sx {b : Addr} {vs : List Str} {q : Nat} (h : LnAt CL H a ws r) (hL : LnAt CL H b vs q) (n : a ≠ b) (z : SameX b H H') : LnAt CL H' a ws r := by
  obtain ⟨dx', n', wl', c', g1, g2⟩ := hL.ex
  obtain ⟨dx, m, wl, c, h1, h2⟩ := h.ex
  exact ⟨⟨dx, m, wl, c, z _ _ n h1, z _ _ (ne_of h2 g1 (fun z => nomatch z)) h2⟩, h.ok⟩
end
/-- the four lists of a world's things as far as they are read -/
structure Thg (K : PySem.W.Frag) (CS CT CR CP : Addr) (H : Hp) (th l0 l1 l2 l3 : Addr) (S : List SatD) (T : List StaD) (R : List RecD) (P : List PasD) : Prop where
  tup : H th = some (.tup [.ref l0, .ref l1, .ref l2, .ref l3])
  d01 : l0 ≠ l1
  d02 : l0 ≠ l2
  d03 : l0 ≠ l3
  d12 : l1 ≠ l2
  d13 : l1 ≠ l3
  d23 : l2 ≠ l3
  sats : ∃ xs, H l0 = some (.lst xs) ∧ Paired (SatAt K CS H) xs S
  stas : ∃ xs, H l1 = some (.lst xs) ∧ Paired (StaAt CT H) xs T
  recs : ∃ xs, H l2 = some (.lst xs) ∧ Paired (RecAt CR H) xs R
  pass : ∃ xs, H l3 = some (.lst xs) ∧ Paired (PasAt K CP H) xs P
theorem refs_sat {K : PySem.W.Frag} {C : Addr} {H : Hp} {xs : List V} {S : List SatD} (h : Paired (SatAt K C H) xs S) : ∀ y ∈ xs, ∃ t, y = V.ref t := fun y hy => by
  obtain ⟨i, hi, e⟩ := List.mem_iff_getElem.mp hy
  obtain ⟨s, _, b, _, _, _, e1, _⟩ := paired_at h (List.getElem?_eq_getElem hi)
  exact ⟨b, by rw [← e, e1]⟩
theorem refs_sta {C : Addr} {H : Hp} {xs : List V} {S : List StaD} (h : Paired (StaAt C H) xs S) : ∀ y ∈ xs, ∃ t, y = V.ref t := fun y hy => by
  obtain ⟨i, hi, e⟩ := List.mem_iff_getElem.mp hy
  obtain ⟨s, _, b, _, e1, _⟩ := paired_at h (List.getElem?_eq_getElem hi)
  exact ⟨b, by rw [← e, e1]⟩
theorem refs_rec {C : Addr} {H : Hp} {xs : List V} {S : List RecD} (h : Paired (RecAt C H) xs S) : ∀ y ∈ xs, ∃ t, y = V.ref t := fun y hy => by
  obtain ⟨i, hi, e⟩ := List.mem_iff_getElem.mp hy
  obtain ⟨s, _, b, _, e1, _⟩ := paired_at h (List.getElem?_eq_getElem hi)
  exact ⟨b, by rw [← e, e1]⟩
theorem refs_pas {K : PySem.W.Frag} {C : Addr} {H : Hp} {xs : List V} {S : List PasD} (h : Paired (PasAt K C H) xs S) : ∀ y ∈ xs, ∃ t, y = V.ref t := fun y hy => by
  obtain ⟨i, hi, e⟩ := List.mem_iff_getElem.mp hy
  obtain ⟨s, _, b, _, _, e1, _⟩ := paired_at h (List.getElem?_eq_getElem hi)
  exact ⟨b, by rw [← e, e1]⟩
section
variable {K : PySem.W.Frag} {CL CS CT CR CP : Addr} {H H' : Hp} {a th l0 l1 l2 l3 : Addr} {ws : List Str} {r : Nat} {S : List SatD} {T : List StaD} {R : List RecD} {P : List PasD}
theorem Thg.same (h : Thg K CS CT CR CP H th l0 l1 l2 l3 S T R P) (z : Same H H') : Thg K CS CT CR CP H' th l0 l1 l2 l3 S T R P := by
  obtain ⟨x0, a0, b0⟩ := h.sats
  obtain ⟨x1, a1, b1⟩ := h.stas
  obtain ⟨x2, a2, b2⟩ := h.recs
  obtain ⟨x3, a3, b3⟩ := h.pass
  exact ⟨z _ _ h.tup, h.d01, h.d02, h.d03, h.d12, h.d13, h.d23, ⟨x0, z _ _ a0, Paired.mapP b0 fun _ _ y => y.same z⟩, ⟨x1, z _ _ a1, Paired.mapP b1 fun _ _ y => y.same z⟩, ⟨x2, z _ _ a2, Paired.mapP b2 fun _ _ y => y.same z⟩, ⟨x3, z _ _ a3, Paired.mapP b3 fun _ _ y => y.same z⟩⟩
theorem Thg.sx (h : Thg K CS CT CR CP H th l0 l1 l2 l3 S T R P) (hL : LnAt CL H a ws r) (z : SameX a H H') : Thg K CS CT CR CP H' th l0 l1 l2 l3 S T R P := by
  obtain ⟨dx', n', wl', c', g1, g2⟩ := hL.ex
  obtain ⟨x0, a0, b0⟩ := h.sats
  obtain ⟨x1, a1, b1⟩ := h.stas
  obtain ⟨x2, a2, b2⟩ := h.recs
  obtain ⟨x3, a3, b3⟩ := h.pass
  exact ⟨z _ _ (ne_of h.tup g1 (fun z => nomatch z)) h.tup, h.d01, h.d02, h.d03, h.d12, h.d13, h.d23, ⟨x0, z _ _ (ne_of a0 g1 (fun z => nomatch z)) a0, Paired.mapP b0 fun _ _ y => y.sx hL z⟩, ⟨x1, z _ _ (ne_of a1 g1 (fun z => nomatch z)) a1, Paired.mapP b1 fun _ _ y => y.sx hL z⟩,
    ⟨x2, z _ _ (ne_of a2 g1 (fun z => nomatch z)) a2, Paired.mapP b2 fun _ _ y => y.sx hL z⟩, ⟨x3, z _ _ (ne_of a3 g1 (fun z => nomatch z)) a3, Paired.mapP b3 fun _ _ y => y.sx hL z⟩⟩
theorem Thg.push0 {xs : List V} {b : Addr} {s : SatD} (h : Thg K CS CT CR CP H th l0 l1 l2 l3 S T R P) (e : H l0 = some (.lst xs)) (k : SatAt K CS H (.ref b) s) : Thg K CS CT CR CP (L2.upd H l0 (.lst (xs ++ [.ref b]))) th l0 l1 l2 l3 (S ++ [s]) T R P := by
  obtain ⟨x0, a0, b0⟩ := h.sats
  obtain ⟨x1, a1, b1⟩ := h.stas
  obtain ⟨x2, a2, b2⟩ := h.recs
  obtain ⟨x3, a3, b3⟩ := h.pass
  have ex : x0 = xs := HO.lst.inj (Option.some.inj (a0.symm.trans e))
  subst ex
  exact ⟨by rw [upd_ne (ne_of h.tup e (fun z => nomatch z))]; exact h.tup, h.d01, h.d02, h.d03, h.d12, h.d13, h.d23, ⟨_, upd_same, paired_snoc (Paired.mapP b0 fun _ _ y => y.up e) (k.up e)⟩, ⟨x1, by rw [upd_ne h.d01.symm]; exact a1, Paired.mapP b1 fun _ _ y => y.up e⟩,
    ⟨x2, by rw [upd_ne h.d02.symm]; exact a2, Paired.mapP b2 fun _ _ y => y.up e⟩, ⟨x3, by rw [upd_ne h.d03.symm]; exact a3, Paired.mapP b3 fun _ _ y => y.up e⟩⟩
theorem Thg.push1 {xs : List V} {b : Addr} {s : StaD} (h : Thg K CS CT CR CP H th l0 l1 l2 l3 S T R P) (e : H l1 = some (.lst xs)) (k : StaAt CT H (.ref b) s) : Thg K CS CT CR CP (L2.upd H l1 (.lst (xs ++ [.ref b]))) th l0 l1 l2 l3 S (T ++ [s]) R P := by
  obtain ⟨x0, a0, b0⟩ := h.sats
  obtain ⟨x1, a1, b1⟩ := h.stas
  obtain ⟨x2, a2, b2⟩ := h.recs
  obtain ⟨x3, a3, b3⟩ := h.pass
  have ex : x1 = xs := HO.lst.inj (Option.some.inj (a1.symm.trans e))
  subst ex
  exact ⟨by rw [upd_ne (ne_of h.tup e (fun z => nomatch z))]; exact h.tup, h.d01, h.d02, h.d03, h.d12, h.d13, h.d23, ⟨x0, by rw [upd_ne h.d01]; exact a0, Paired.mapP b0 fun _ _ y => y.up e⟩, ⟨_, upd_same, paired_snoc (Paired.mapP b1 fun _ _ y => y.up e) (k.up e)⟩,
    ⟨x2, by rw [upd_ne h.d12.symm]; exact a2, Paired.mapP b2 fun _ _ y => y.up e⟩, ⟨x3, by rw [upd_ne h.d13.symm]; exact a3, Paired.mapP b3 fun _ _ y => y.up e⟩⟩
theorem Thg.push2 {xs : List V} {b : Addr} {s : RecD} (h : Thg K CS CT CR CP H th l0 l1 l2 l3 S T R P) (e : H l2 = some (.lst xs)) (k : RecAt CR H (.ref b) s) : Thg K CS CT CR CP (L2.upd H l2 (.lst (xs ++ [.ref b]))) th l0 l1 l2 l3 S T (R ++ [s]) P := by
  obtain ⟨x0, a0, b0⟩ := h.sats
  obtain ⟨x1, a1, b1⟩ := h.stas
  obtain ⟨x2, a2, b2⟩ := h.recs
  obtain ⟨x3, a3, b3⟩ := h.pass
  have ex : x2 = xs := HO.lst.inj (Option.some.inj (a2.symm.trans e))
  subst ex
  exact ⟨by rw [upd_ne (ne_of h.tup e (fun z => nomatch z))]; exact h.tup, h.d01, h.d02, h.d03, h.d12, h.d13, h.d23, ⟨x0, by rw [upd_ne h.d02]; exact a0, Paired.mapP b0 fun _ _ y => y.up e⟩, ⟨x1, by rw [upd_ne h.d12]; exact a1, Paired.mapP b1 fun _ _ y => y.up e⟩,
    ⟨_, upd_same, paired_snoc (Paired.mapP b2 fun _ _ y => y.up e) (k.up e)⟩, ⟨x3, by rw [upd_ne h.d23.symm]; exact a3, Paired.mapP b3 fun _ _ y => y.up e⟩⟩
theorem Thg.push3 {xs : List V} {b : Addr} {s : PasD} (h : Thg K CS CT CR CP H th l0 l1 l2 l3 S T R P) (e : H l3 = some (.lst xs)) (k : PasAt K CP H (.ref b) s) : Thg K CS CT CR CP (L2.upd H l3 (.lst (xs ++ [.ref b]))) th l0 l1 l2 l3 S T R (P ++ [s]) := by
  obtain ⟨x0, a0, b0⟩ := h.sats
  obtain ⟨x1, a1, b1⟩ := h.stas
  obtain ⟨x2, a2, b2⟩ := h.recs
  obtain ⟨x3, a3, b3⟩ := h.pass
  have ex : x3 = xs := HO.lst.inj (Option.some.inj (a3.symm.trans e))
  subst ex
  exact ⟨by rw [upd_ne (ne_of h.tup e (fun z => nomatch z))]; exact h.tup, h.d01, h.d02, h.d03, h.d12, h.d13, h.d23, ⟨x0, by rw [upd_ne h.d03]; exact a0, Paired.mapP b0 fun _ _ y => y.up e⟩, ⟨x1, by rw [upd_ne h.d13]; exact a1, Paired.mapP b1 fun _ _ y => y.up e⟩,
    ⟨x2, by rw [upd_ne h.d23]; exact a2, Paired.mapP b2 fun _ _ y => y.up e⟩, ⟨_, upd_same, paired_snoc (Paired.mapP b3 fun _ _ y => y.up e) (k.up e)⟩⟩
end
theorem paired_map {α β γ : Type} {F : α → β → Prop} {G : α → γ → Prop} {f : β → γ} (h : ∀ a b, F a b → G a (f b)) : ∀ {xs : List α} {ys : List β}, Paired F xs ys → Paired G xs (ys.map f)
  | _, _, .nil => .nil
  | _, _, .cons a t => .cons (h _ _ a) (paired_map h t)
section
variable {K : PySem.W.Frag} {mg : Str → Option Value} {CL CS CT CR CP CW aS aR fS fT fR fP : Addr} {H : Hp} {th l0 l1 l2 l3 : Addr} {S : List SatD} {T : List StaD} {R : List RecD} {P : List PasD}
theorem Thg.list (h : Thg K CS CT CR CP H th l0 l1 l2 l3 S T R P) : SqT K H th (([l0, l1, l2, l3]).map V.ref) := SqT.of h.tup
theorem Thg.n0 (X : TxtW K mg CL CS CT CR CP CW aS aR fS fT fR fP) (h : Thg K CS CT CR CP H th l0 l1 l2 l3 S T R P) (hl : S.length ≤ 100) : NamesAt K H th 0 (S.map (·.name)) := by
  obtain ⟨xs, a, b⟩ := h.sats
  exact ⟨[l0, l1, l2, l3], l0, xs, h.list, rfl, SqL.of a, paired_map (fun _ _ ⟨b, dx, t, ls, h1, h2, _⟩ => ⟨b, CS, dx, _, h1, h2, X.c_Satellite.cl, X.n_Satellite_name, lk_hit⟩) b, by rw [List.length_map]; exact hl⟩
theorem Thg.n1 (X : TxtW K mg CL CS CT CR CP CW aS aR fS fT fR fP) (h : Thg K CS CT CR CP H th l0 l1 l2 l3 S T R P) (hl : T.length ≤ 100) : NamesAt K H th 1 (T.map (·.name)) := by
  obtain ⟨xs, a, b⟩ := h.stas
  exact ⟨[l0, l1, l2, l3], l1, xs, h.list, rfl, SqL.of a, paired_map (fun _ _ ⟨b, dx, h1, h2⟩ => ⟨b, CT, dx, _, h1, h2, X.c_Station.cl, X.n_Station_name, lk_hit⟩) b, by rw [List.length_map]; exact hl⟩
theorem Thg.n2 (X : TxtW K mg CL CS CT CR CP CW aS aR fS fT fR fP) (h : Thg K CS CT CR CP H th l0 l1 l2 l3 S T R P) (hl : R.length ≤ 100) : NamesAt K H th 2 (R.map (·.name)) := by
  obtain ⟨xs, a, b⟩ := h.recs
  exact ⟨[l0, l1, l2, l3], l2, xs, h.list, rfl, SqL.of a, paired_map (fun _ _ ⟨b, dx, h1, h2⟩ => ⟨b, CR, dx, _, h1, h2, X.c_Recording.cl, X.n_Recording_name, lk_hit⟩) b, by rw [List.length_map]; exact hl⟩
theorem Thg.n3 (X : TxtW K mg CL CS CT CR CP CW aS aR fS fT fR fP) (h : Thg K CS CT CR CP H th l0 l1 l2 l3 S T R P) (hl : P.length ≤ 100) : NamesAt K H th 3 (P.map (·.name)) := by
  obtain ⟨xs, a, b⟩ := h.pass
  exact ⟨[l0, l1, l2, l3], l3, xs, h.list, rfl, SqL.of a, paired_map (fun _ _ ⟨b, dx, t, h1, h2, _⟩ => ⟨b, CP, dx, _, h1, h2, X.c_Pass.cl, X.n_Pass_name, lk_hit⟩) b, by rw [List.length_map]; exact hl⟩
end
end DP
namespace DP
open PySem PySem.Spec PyProof.Rows L2
/-- what is read ahead of the i-th line behind the first one -/
def preS (W : WorldD) (i : Nat) : List SatD := W.sats.take i
def preT (W : WorldD) (i : Nat) : List StaD := W.stas.take (i - W.sats.length)
def preR (W : WorldD) (i : Nat) : List RecD := W.recs.take (i - W.sats.length - W.stas.length)
def preP (W : WorldD) (i : Nat) : List PasD := W.pass.take (i - W.sats.length - W.stas.length - W.recs.length)
/-- the lines behind the first one -/
def restW (W : WorldD) : List (List Str) := W.sats.map wSat ++ W.stas.map wSta ++ W.recs.map (wRec W) ++ W.pass.map (wPas W)
/-- the sort of the i-th -/
def kindW (W : WorldD) (i : Nat) : Nat := if i < W.sats.length then 0 else if i < W.sats.length + W.stas.length then 1 else if i < W.sats.length + W.stas.length + W.recs.length then 2 else 3
theorem restW_len (W : WorldD) : (restW W).length = W.sats.length + W.stas.length + W.recs.length + W.pass.length := by
  unfold restW
  rw [List.length_append, List.length_append, List.length_append, List.length_map, List.length_map, List.length_map, List.length_map]
theorem take_snoc {α : Type} {l : List α} {i : Nat} {x : α} (h : l[i]? = some x) : l.take (i + 1) = l.take i ++ [x] := by
  rw [List.take_add_one, h]
  rfl
/-- the i-th line, by its sort -/
theorem restW_at (W : WorldD) {i : Nat} (hi : i < (restW W).length) :
    (∃ s, kindW W i = 0 ∧ s ∈ W.sats ∧ (restW W)[i]? = some (wSat s) ∧ W.sats[i]? = some s ∧ preS W (i + 1) = preS W i ++ [s] ∧ preT W (i + 1) = preT W i ∧ preR W (i + 1) = preR W i ∧ preP W (i + 1) = preP W i) ∨
    (∃ s, kindW W i = 1 ∧ s ∈ W.stas ∧ (restW W)[i]? = some (wSta s) ∧ W.stas[i - W.sats.length]? = some s ∧ preS W (i + 1) = preS W i ∧ preT W (i + 1) = preT W i ++ [s] ∧ preR W (i + 1) = preR W i ∧ preP W (i + 1) = preP W i ∧ preS W i = W.sats) ∨
    (∃ s, kindW W i = 2 ∧ s ∈ W.recs ∧ (restW W)[i]? = some (wRec W s) ∧ W.recs[i - W.sats.length - W.stas.length]? = some s ∧ preS W (i + 1) = preS W i ∧ preT W (i + 1) = preT W i ∧ preR W (i + 1) = preR W i ++ [s] ∧ preP W (i + 1) = preP W i ∧ preS W i = W.sats ∧ preT W i = W.stas) ∨
    (∃ s, kindW W i = 3 ∧ s ∈ W.pass ∧ (restW W)[i]? = some (wPas W s) ∧ W.pass[i - W.sats.length - W.stas.length - W.recs.length]? = some s ∧ preS W (i + 1) = preS W i ∧ preT W (i + 1) = preT W i ∧ preR W (i + 1) = preR W i ∧ preP W (i + 1) = preP W i ++ [s] ∧ preS W i = W.sats ∧ preT W i = W.stas) := by
  rw [restW_len] at hi
  by_cases c0 : i < W.sats.length
  · have e : W.sats[i]? = some W.sats[i] := List.getElem?_eq_getElem c0
    refine .inl ⟨W.sats[i], by unfold kindW; rw [if_pos c0], List.getElem_mem c0, ?_, e, take_snoc e, ?_, ?_, ?_⟩
    · unfold restW
      rw [List.append_assoc, List.append_assoc, List.getElem?_append_left (by rw [List.length_map]; exact c0), List.getElem?_map, e]
      rfl
    · unfold preT; rw [show i + 1 - W.sats.length = i - W.sats.length by omega]
    · unfold preR; rw [show i + 1 - W.sats.length = i - W.sats.length by omega]
    · unfold preP; rw [show i + 1 - W.sats.length = i - W.sats.length by omega]
  have aS : ∀ j, W.sats.length ≤ j → preS W j = W.sats := fun j hj => List.take_of_length_le hj
  by_cases c1 : i < W.sats.length + W.stas.length
  · have hj : i - W.sats.length < W.stas.length := by omega
    have e : W.stas[i - W.sats.length]? = some W.stas[i - W.sats.length] := List.getElem?_eq_getElem hj
    refine .inr (.inl ⟨_, by unfold kindW; rw [if_neg c0, if_pos c1], List.getElem_mem hj, ?_, e, by rw [aS _ (by omega), aS _ (by omega)], ?_, ?_, ?_, aS _ (by omega)⟩)
    · unfold restW
      rw [List.append_assoc, List.append_assoc, List.getElem?_append_right (by rw [List.length_map]; omega), List.length_map, List.getElem?_append_left (by rw [List.length_map]; exact hj), List.getElem?_map, e]
      rfl
    · unfold preT; rw [show i + 1 - W.sats.length = (i - W.sats.length) + 1 by omega]; exact take_snoc e
    · unfold preR; rw [show i + 1 - W.sats.length - W.stas.length = i - W.sats.length - W.stas.length by omega]
    · unfold preP; rw [show i + 1 - W.sats.length - W.stas.length = i - W.sats.length - W.stas.length by omega]
  have aT : ∀ j, W.sats.length + W.stas.length ≤ j → preT W j = W.stas := fun j hj => List.take_of_length_le (by omega)
  by_cases c2 : i < W.sats.length + W.stas.length + W.recs.length
  · have hj : i - W.sats.length - W.stas.length < W.recs.length := by omega
    have e : W.recs[i - W.sats.length - W.stas.length]? = some W.recs[i - W.sats.length - W.stas.length] := List.getElem?_eq_getElem hj
    refine .inr (.inr (.inl ⟨_, by unfold kindW; rw [if_neg c0, if_neg c1, if_pos c2], List.getElem_mem hj, ?_, e, by rw [aS _ (by omega), aS _ (by omega)], by rw [aT _ (by omega), aT _ (by omega)], ?_, ?_, aS _ (by omega), aT _ (by omega)⟩))
    · unfold restW
      rw [List.append_assoc, List.append_assoc, List.getElem?_append_right (by rw [List.length_map]; omega), List.length_map, List.getElem?_append_right (by rw [List.length_map]; omega), List.length_map, List.getElem?_append_left (by rw [List.length_map]; exact hj), List.getElem?_map, e]
      rfl
    · unfold preR; rw [show i + 1 - W.sats.length - W.stas.length = (i - W.sats.length - W.stas.length) + 1 by omega]; exact take_snoc e
    · unfold preP; rw [show i + 1 - W.sats.length - W.stas.length - W.recs.length = i - W.sats.length - W.stas.length - W.recs.length by omega]
  have hj : i - W.sats.length - W.stas.length - W.recs.length < W.pass.length := by omega
  have e : W.pass[i - W.sats.length - W.stas.length - W.recs.length]? = some W.pass[i - W.sats.length - W.stas.length - W.recs.length] := List.getElem?_eq_getElem hj
  have aR : ∀ j, W.sats.length + W.stas.length + W.recs.length ≤ j → preR W j = W.recs := fun j hj => List.take_of_length_le (by omega)
  refine .inr (.inr (.inr ⟨_, by unfold kindW; rw [if_neg c0, if_neg c1, if_neg c2], List.getElem_mem hj, ?_, e, by rw [aS _ (by omega), aS _ (by omega)], by rw [aT _ (by omega), aT _ (by omega)], by rw [aR _ (by omega), aR _ (by omega)], ?_, aS _ (by omega), aT _ (by omega)⟩))
  · unfold restW
    rw [List.append_assoc, List.append_assoc, List.getElem?_append_right (by rw [List.length_map]; omega), List.length_map, List.getElem?_append_right (by rw [List.length_map]; omega), List.length_map, List.getElem?_append_right (by rw [List.length_map]; omega), List.length_map, List.getElem?_map, e]
    rfl
  · unfold preP; rw [show i + 1 - W.sats.length - W.stas.length - W.recs.length = (i - W.sats.length - W.stas.length - W.recs.length) + 1 by omega]; exact take_snoc e
theorem kindW_mono (W : WorldD) (i : Nat) : kindW W i ≤ kindW W (i + 1) := by
  unfold kindW
  by_cases c0 : i < W.sats.length
  · rw [if_pos c0]; exact Nat.zero_le _
  rw [if_neg c0, if_neg (show ¬ i + 1 < W.sats.length by omega)]
  by_cases c1 : i < W.sats.length + W.stas.length
  · rw [if_pos c1]
    split
    · exact Nat.le_refl _
    · split <;> omega
  rw [if_neg c1, if_neg (show ¬ i + 1 < W.sats.length + W.stas.length by omega)]
  by_cases c2 : i < W.sats.length + W.stas.length + W.recs.length
  · rw [if_pos c2]
    split <;> omega
  · rw [if_neg c2, if_neg (show ¬ i + 1 < W.sats.length + W.stas.length + W.recs.length by omega)]
    exact Nat.le_refl _
/-- a name is not among those ahead of it -/
theorem fresh_name {α : Type} {f : α → Str} {l : List α} {i : Nat} {s : α} (hd : (l.map f).Nodup) (h : l[i]? = some s) : f s ∉ (l.take i).map f := fun z => by
  obtain ⟨t, ht, e⟩ := List.mem_map.mp z
  obtain ⟨j, hj, ej⟩ := List.mem_iff_getElem.mp ht
  rw [List.getElem_take] at ej
  rw [List.length_take] at hj
  obtain ⟨hi, es⟩ := List.getElem?_eq_some_iff.mp h
  have h1 : (l.map f)[j]'(by rw [List.length_map]; omega) = (l.map f)[i]'(by rw [List.length_map]; exact hi) := by
    rw [List.getElem_map, List.getElem_map, ej, es]
    exact e
  have := (List.getElem_inj hd).mp h1
  omega
def sortsL : List Str := ["satellite", "station", "recording", "pass"]
section
variable {P : Program} {w : World} {K : PySem.W.Frag} {mg : Str → Option Value} {base : Heap} {CL CS CT CR CP CW aS aR fS fT fR fP : Addr}
def mostK : List Int := [3, 3, 10, 10]
def spMost : Sp := fun vs H Q _ => ∃ (i : Nat) (m : Int), vs = [.int (i : Int)] ∧ mostK[i]? = some m ∧ ∀ H', Same H H' → Q (.int m) H'
theorem d_most_things (T : TxtW K mg CL CS CT CR CP CW aS aR fS fT fR fP) (A : At K mg "most_things" s_most_things ["sort"]) : DefOk P w K mg base CX0 1 "most_things" ["sort"] spMost := by
  have B := T.L.B
  refine A.ok sc_most_things (fun vs H Q E h => ?_) (fun f cdv A outer s H vs Q E hr h => ?_)
  · obtain ⟨i, m, rfl, _⟩ := h
    rfl
  obtain ⟨i, m, rfl, hi, q⟩ := h
  refine ⟨_, pss_cons (ps_set (i := 1) sc_most_things.nd rfl (Or.inl rfl) (pe_tup (pa_cons (ClX.pe_cval (pe_ga T.c_World.gC) rfl) (pa_cons (ClX.pe_cval (pe_ga T.c_World.gC) rfl) (pa_cons (ClX.pe_cval (pe_ga T.c_World.gC) rfl) (pa_cons (ClX.pe_cval (pe_ga T.c_World.gC) rfl) pa_nil))))))
  (pss_one (ps_ret (pe_ix ix_tup (pv 1) (pv 0) (fun _ _ => rfl))))
    , ?_⟩
  obtain ⟨k1, h1⟩ := T.v_MOST_SATELLITES
  obtain ⟨k2, h2⟩ := T.v_MOST_STATIONS
  obtain ⟨k3, h3⟩ := T.v_MOST_RECORDINGS
  obtain ⟨k4, h4⟩ := T.v_MOST_PASSES
  refine ⟨CW, _, _, _, rfl, T.rdW, h1, CW, _, _, _, rfl, T.rdW, h2, CW, _, _, _, rfl, T.rdW, h3, CW, _, _, _, rfl, T.rdW, h4, (by show 4 ≤ sizeLine; decide), fun p hp => ?_⟩
  refine ⟨_, rfl, _, rfl, p, _, _, .int m, rfl, rfl, SqT.of upd_same, atI_nat ?_, q _ (same_new hp _)⟩
  have e : ([V.int 3, V.int 3, V.int 10, V.int 10] : List V) = mostK.map V.int := rfl
  rw [e, List.getElem?_map, hi]
  rfl
def spSort (K : PySem.W.Frag) (CL : Addr) : Sp := fun vs H Q _ => ∃ (a : Addr) (ws : List Str) (ahead : Int) (th : Addr) (ls : List Addr) (l : Addr) (xs : List V) (i : Nat) (u : Str) (m : Int), vs = [.ref a, .int ahead, .ref th] ∧ LnAt CL H a ws 0 ∧ ws[0]? = some u ∧ sortsL[i]? = some u ∧ ahead ≤ (i : Int) ∧
  SqT K H th (ls.map V.ref) ∧ ls[i]? = some l ∧ SqL K H l xs ∧ mostK[i]? = some m ∧ (xs.length : Int) < m ∧ ∀ H', SameX a H H' → LnAt CL H' a ws 1 → Q (.int (i : Int)) H'
theorem sorts_first {u : Str} : ∀ {i : Nat}, sortsL[i]? = some u → ∀ m, m < i → sortsL[m]? ≠ some u := by
  have nd : sortsL.Nodup := by decide +kernel
  intro i h m hm z
  obtain ⟨h1, e1⟩ := List.getElem?_eq_some_iff.mp h
  obtain ⟨h2, e2⟩ := List.getElem?_eq_some_iff.mp z
  have := (List.getElem_inj nd).mp (e1.trans e2.symm)
  omega
theorem d_read_sort (T : TxtW K mg CL CS CT CR CP CW aS aR fS fT fR fP) (D_Line_due : MDef P w K mg base CX0 2 CL "due" ["self"] [] (spDue CL)) (D_Line_step : MDef P w K mg base CX0 1 CL "step" ["self"] [] (spStep CL)) (D_most_things : DefOk P w K mg base CX0 1 "most_things" ["sort"] spMost)
    (A : At K mg "read_sort" s_read_sort ["line", "ahead", "things"]) : DefOk P w K mg base CX0 3 "read_sort" ["line", "ahead", "things"] (spSort K CL) := by
  have B := T.L.B
  refine A.ok sc_read_sort (fun vs H Q E h => ?_) (fun f cdv A outer s H vs Q E hr h => ?_)
  · obtain ⟨a, ws, ahead, th, ls, l, xs, i, u, m, rfl, _⟩ := h
    rfl
  obtain ⟨a, ws, ahead, th, ls, l, xs, i, u, m, rfl, hL, hu, hi, hah, h1, h2, h3, h4, h5, q⟩ := h
  refine ⟨_, pss_cons (ps_set (i := 3) sc_read_sort.nd rfl (Or.inl rfl) (pe_m0 D_Line_due T.c_Line.cl (hr.mono (by omega)) pass0 (pv 0)))
  (pss_cons (ps_if (pt_cmpR op_notIn_seq (pv 3) (pe_ga T.g_SORTS) (by rfl))
      (pss_one (ps_never))
      (pss_nil))
  (pss_cons (ps_set (i := 4) sc_read_sort.nd rfl (Or.inl rfl) (pe_bm PySem.F.plainAttrs_tuple PySem.F.slot_tuple_index PySem.F.type_tuple_index mt_tup_index (pe_ga T.g_SORTS) (pa_cons (pv 3) pa_nil)))
  (pss_cons (ps_if (pt_cmpR op_lt (pv 4) (pv 1) (nomark _))
      (pss_one (ps_never))
      (pss_nil))
  (pss_cons (ps_if (pt_cmpR op_eq (pe_callB (call_len_seq) (by rfl) B.len (by decide +kernel) (pa_cons (pe_ix ix_tup (pv 2) (pv 4) (fun _ _ => rfl)) pa_nil)) (pe_f D_most_things (hr.mono (by omega)) pass0 (pa_cons (pv 4) pa_nil)) (nomark _))
      (pss_one (ps_never))
      (pss_nil))
  (pss_cons (ps_expr (pe_m0 D_Line_step T.c_Line.cl (hr.mono (by omega)) pass0 (pv 0)))
  (pss_one (ps_ret (pv 4))))))))
    , ?_⟩
  have hm : u ∈ sortsL := List.mem_of_getElem? hi
  have hr' : 0 < ws.length := (List.getElem?_eq_some_iff.mp hu).1
  obtain ⟨dx, fs, g0, z0⟩ := LnAt.no hL (m := "due") (by decide +kernel) (by decide +kernel) (by decide +kernel) (by decide +kernel)
  refine ⟨_, rfl, a, _, _, rfl, g0, z0, a, ws, 0, u, rfl, hL, hu, ?_⟩
  refine ⟨_, rfl, aS, _, rfl, .inr (T.t_SORTS H), rfl, flat_strs, _, rfl, iteF' (by rw [show (([("satellite" : Str), "station", "recording", "pass"]).map V.str) = sortsL.map V.str from rfl, inV_str, decide_eq_true hm]; rfl) ?_⟩
  obtain ⟨o, ho1, ho2, ho3⟩ := T.k_SORTS
  refine ⟨.inr (.inl ⟨rfl, o, ho1, ho2, ho3⟩), _, rfl, aS, sortsL, u, i, rfl, rfl, T.t_SORTS H, hi, sorts_first hi, ?_⟩
  refine ⟨_, rfl, _, rfl, _, _, rfl, rfl, _, rfl, iteF' (decide_eq_false (by omega)) ?_⟩
  refine ⟨_, rfl, _, rfl, th, _, _, .ref l, rfl, rfl, h1, atI_nat (by rw [List.getElem?_map, h2]; rfl), l, xs, rfl, .inl h3, _, rfl, i, m, rfl, h4, fun H1 s1 => ?_⟩
  refine ⟨rfl, _, rfl, iteF' (decide_eq_false fun z => by have := V.int.inj z; omega) ?_⟩
  obtain ⟨dx, fs, g1, z1⟩ := LnAt.no (hL.same s1) (m := "step") (by decide +kernel) (by decide +kernel) (by decide +kernel) (by decide +kernel)
  refine ⟨_, rfl, a, _, _, rfl, g1, z1, a, ws, 0, rfl, hL.same s1, hr', fun H2 s2 L2 => ?_⟩
  exact ⟨_, rfl, q H2 ((SameX.of s1).trans s2) L2⟩
end
end DP
namespace DP
open PySem PySem.Spec PyProof.Rows L2
def SameA (as : List Addr) (H H' : Hp) : Prop := ∀ b o, b ∉ as → H b = some o → H' b = some o
theorem SameA.trans {as : List Addr} {H H1 H2 : Hp} (x : SameA as H H1) (y : SameA as H1 H2) : SameA as H H2 := fun b o n h => y b o n (x b o n h)
theorem SameA.of {as : List Addr} {H H' : Hp} (s : Same H H') : SameA as H H' := fun b o _ h => s b o h
theorem SameA.ofX {as : List Addr} {a : Addr} {H H' : Hp} (s : SameX a H H') (h : a ∈ as) : SameA as H H' := fun b o n q => s b o (fun z => n (z ▸ h)) q
theorem SameA.new {as : List Addr} {H H' : Hp} {L : Addr} {o : HO} (hL : H L = none) (s : SameA as H H') : SameA as H (upd H' L o) := fun b u n h => by
  rw [upd_ne (ne_of_none h hL)]
  exact s b u n h
theorem at_ne {K : PySem.W.Frag} {mg : Str → Option Value} {x y : Str} {st st' : Stmt} {ps ps' : List Str} {f g : Addr} (A : At K mg x st ps) (B : At K mg y st' ps') (hf : mg x = some (.ref f)) (hg : mg y = some (.ref g)) (n : x ≠ y) : f ≠ g := fun z => by
  obtain ⟨f', fd, F, e1, _⟩ := A.ex
  obtain ⟨g', gd, G, e2, _⟩ := B.ex
  rw [hf] at e1
  rw [hg] at e2
  cases e1
  cases e2
  obtain ⟨_, _, _, _, _, _, _, _, _, e3, l1, _⟩ := F.ex
  obtain ⟨_, _, _, _, _, _, _, _, _, e4, l2, _⟩ := G.ex
  rw [← z, l1] at l2
  have e : fd = gd := by
    injection Option.some.inj l2 with _ _ h _
    injection h
  have e5 := congrArg FuncData.name (e3.symm.trans (e.trans e4))
  exact n e5
section
variable {P : Program} {w : World} {K : PySem.W.Frag} {mg : Str → Option Value} {base : Heap} {CL CS CT CR CP CW aS aR fS fT fR fP : Addr}
def rdS (K : PySem.W.Frag) (CL CS CT CR CP fS fT fR fP : Addr) (f : Addr) : Option Sp := if f = fS then some (spRdSat K CL CS) else if f = fT then some (spRdSta K CL CT) else if f = fR then some (spRdRec K CL CR) else if f = fP then some (spRdPas K CL CP) else none
theorem held_of {x : Str} {ps : List Str} {sp : Sp} {k : Nat} {f : Addr} (D : DefOk P w K mg base CX0 k x ps sp) (h : mg x = some (.ref f)) : Held P w K mg base k f sp := by
  obtain ⟨g, fd, G, m, kp, b, _⟩ := D.ex
  rw [h] at m
  cases m
  exact ⟨fd, ps, G, kp, b⟩
def spThings (K : PySem.W.Frag) (CL CS CT CR CP : Addr) : Sp := fun vs H Q _ => ∃ (p : Addr) (as : List Addr) (W : WorldD), vs = [.ref p, .int W.horizon] ∧ SqL K H p (as.map V.ref) ∧ as.Nodup ∧ WorldOk W ∧ Paired (fun a l => LnAt CL H a l 0) as (restW W) ∧
  ∀ th l0 l1 l2 l3 H', SameA as H H' → Thg K CS CT CR CP H' th l0 l1 l2 l3 W.sats W.stas W.recs W.pass → Q (.ref th) H'
set_option maxHeartbeats 8000000 in
theorem d_read_things (T : TxtW K mg CL CS CT CR CP CW aS aR fS fT fR fP) (D_read_sort : DefOk P w K mg base CX0 3 "read_sort" ["line", "ahead", "things"] (spSort K CL))
    (D1 : DefOk P w K mg base CX0 5 "read_satellite" ["line", "horizon", "things"] (spRdSat K CL CS)) (D2 : DefOk P w K mg base CX0 5 "read_station" ["line", "_", "things"] (spRdSta K CL CT))
    (D3 : DefOk P w K mg base CX0 5 "read_recording" ["line", "horizon", "things"] (spRdRec K CL CR)) (D4 : DefOk P w K mg base CX0 5 "read_pass" ["line", "horizon", "things"] (spRdPas K CL CP))
    (n1 : fT ≠ fS) (n2 : fR ≠ fS) (n3 : fR ≠ fT) (n4 : fP ≠ fS) (n5 : fP ≠ fT) (n6 : fP ≠ fR)
    (D_Line_finish : MDef P w K mg base CX0 3 CL "finish" ["self"] [] (spFinish CL)) (A : At K mg "read_things" s_read_things ["lines", "horizon"]) : DefOk P w K mg base CX0 6 "read_things" ["lines", "horizon"] (spThings K CL CS CT CR CP) := by
  have B := T.L.B
  have HA : ∀ f sp, rdS K CL CS CT CR CP fS fT fR fP f = some sp → Held P w K mg base 5 f sp := fun f sp h => by
    unfold rdS at h
    by_cases c1 : f = fS
    · rw [if_pos c1] at h
      cases h
      rw [c1]
      exact held_of D1 T.r_satellite
    rw [if_neg c1] at h
    by_cases c2 : f = fT
    · rw [if_pos c2] at h
      cases h
      rw [c2]
      exact held_of D2 T.r_station
    rw [if_neg c2] at h
    by_cases c3 : f = fR
    · rw [if_pos c3] at h
      cases h
      rw [c3]
      exact held_of D3 T.r_recording
    rw [if_neg c3] at h
    by_cases c4 : f = fP
    · rw [if_pos c4] at h
      cases h
      rw [c4]
      exact held_of D4 T.r_pass
    rw [if_neg c4] at h
    cases h
  have S0 : rdS K CL CS CT CR CP fS fT fR fP fS = some (spRdSat K CL CS) := by unfold rdS; rw [if_pos rfl]
  have S1 : rdS K CL CS CT CR CP fS fT fR fP fT = some (spRdSta K CL CT) := by unfold rdS; rw [if_neg n1, if_pos rfl]
  have S2 : rdS K CL CS CT CR CP fS fT fR fP fR = some (spRdRec K CL CR) := by unfold rdS; rw [if_neg n2, if_neg n3, if_pos rfl]
  have S3 : rdS K CL CS CT CR CP fS fT fR fP fP = some (spRdPas K CL CP) := by unfold rdS; rw [if_neg n4, if_neg n5, if_neg n6, if_pos rfl]
  refine A.ok sc_read_things (fun vs H Q E h => ?_) (fun f cdv A outer s H vs Q E hr h => ?_)
  · obtain ⟨p, as, W, rfl, _⟩ := h
    rfl
  obtain ⟨p, as, W, rfl, hp, hnd, wok, hpr, q⟩ := h
  have hlen := paired_len hpr
  refine ⟨_, pss_cons (ps_set (i := 2) sc_read_things.nd rfl (Or.inl rfl) (pe_tup (pa_cons (pe_lst pa_nil) (pa_cons (pe_lst pa_nil) (pa_cons (pe_lst pa_nil) (pa_cons (pe_lst pa_nil) pa_nil))))))
  (pss_cons (ps_set (i := 3) sc_read_things.nd rfl (Or.inl rfl) pe_int)
  (pss_cons (ps_for PassesOwn.never rfl (pi_list (pv 0)) (pg_name (i := 4) sc_read_things.nd rfl (Or.inl rfl))
      (pss_cons (ps_set (i := 3) sc_read_things.nd rfl (Or.inl rfl) (pe_f D_read_sort (hr.mono (by omega)) pass0 (pa_cons (pv 4) (pa_cons (pv 3) (pa_cons (pv 2) pa_nil)))))
      (pss_cons (ps_set (i := 5) sc_read_things.nd rfl (Or.inl rfl) (pe_ix ix_tup (pe_ga T.g_READERS) (pv 3) (fun _ _ => rfl)))
      (pss_cons (ps_expr (pe_bm PySem.F.plainAttrs_list PySem.F.slot_list_append PySem.F.type_list_append mt_append (pe_ix ix_tup (pv 2) (pv 3) (fun _ _ => rfl)) (pa_cons (pe_callA (i := 5) (S := rdS K CL CS CT CR CP fS fT fR fP) HA (hr.mono (by omega)) rfl (Or.inl rfl) (pa_cons (pv 4) (pa_cons (pv 1) (pa_cons (pv 2) pa_nil)))) pa_nil)))
      (pss_one (ps_expr (pe_m0 D_Line_finish T.c_Line.cl (hr.mono (by omega)) pass0 (pv 4))))))))
  (pss_one (ps_ret (pv 2)))))
    , ?_⟩
  refine ⟨Nat.zero_le _, fun l0 h0 => ⟨Nat.zero_le _, fun l1 h1 => ⟨Nat.zero_le _, fun l2 h2 => ⟨Nat.zero_le _, fun l3 h3 => ⟨(by show 4 ≤ sizeLine; decide), fun th hth => ?_⟩⟩⟩⟩⟩
  have d01 : l0 ≠ l1 := fun z => by rw [← z, upd_same] at h1; cases h1
  have h1' : H l1 = none := by rw [upd_ne d01.symm] at h1; exact h1
  have d12 : l1 ≠ l2 := fun z => by rw [← z, upd_same] at h2; cases h2
  have d02 : l0 ≠ l2 := fun z => by rw [← z, upd_ne d01, upd_same] at h2; cases h2
  have h2' : H l2 = none := by rw [upd_ne d12.symm, upd_ne d02.symm] at h2; exact h2
  have d23 : l2 ≠ l3 := fun z => by rw [← z, upd_same] at h3; cases h3
  have d13 : l1 ≠ l3 := fun z => by rw [← z, upd_ne d12, upd_same] at h3; cases h3
  have d03 : l0 ≠ l3 := fun z => by rw [← z, upd_ne d02, upd_ne d01, upd_same] at h3; cases h3
  have h3' : H l3 = none := by rw [upd_ne d23.symm, upd_ne d13.symm, upd_ne d03.symm] at h3; exact h3
  have t3 : l3 ≠ th := fun z => by rw [← z, upd_same] at hth; cases hth
  have t2 : l2 ≠ th := fun z => by rw [← z, upd_ne d23, upd_same] at hth; cases hth
  have t1 : l1 ≠ th := fun z => by rw [← z, upd_ne d13, upd_ne d12, upd_same] at hth; cases hth
  have t0 : l0 ≠ th := fun z => by rw [← z, upd_ne d03, upd_ne d02, upd_ne d01, upd_same] at hth; cases hth
  have hth' : H th = none := by rw [upd_ne t3.symm, upd_ne t2.symm, upd_ne t1.symm, upd_ne t0.symm] at hth; exact hth
  have sS : Same H (upd (upd (upd (upd (upd H l0 (.lst [])) l1 (.lst [])) l2 (.lst [])) l3 (.lst [])) th (.tup [.ref l0, .ref l1, .ref l2, .ref l3])) := same_at hth' (same_at h3' (same_at h2' (same_at h1' (same_new h0 _) _) _) _) _
  refine ⟨_, rfl, p, rfl, ⟨_, sS.seq hp⟩, for_list (K := K) (a := p) (xs := as.map V.ref) (fun i σ H' => ∃ (k : Int) (y4 y5 : Option V), σ = [some (.ref p), some (.int W.horizon), some (.ref th), some (.int k), y4, y5] ∧ k ≤ (kindW W i : Int) ∧
      Thg K CS CT CR CP H' th l0 l1 l2 l3 (preS W i) (preT W i) (preR W i) (preP W i) ∧ (∀ j a l, i ≤ j → as[j]? = some a → (restW W)[j]? = some l → LnAt CL H' a l 0) ∧ SameA as H H') ⟨0, none, none, rfl, by omega, ?_, ?_, SameA.of sS⟩ (fun i σ H' _ hI => ?_) (fun i x σ H1 hx hI => ?_) (fun σ H1 hI => ?_)⟩
  · have e0 : preS W 0 = [] := rfl
    have e1 : preT W 0 = [] := by unfold preT; rw [Nat.zero_sub]; rfl
    have e2 : preR W 0 = [] := by unfold preR; rw [Nat.zero_sub, Nat.zero_sub]; rfl
    have e3 : preP W 0 = [] := by unfold preP; rw [Nat.zero_sub, Nat.zero_sub, Nat.zero_sub]; rfl
    rw [e0, e1, e2, e3]
    exact ⟨upd_same, d01, d02, d03, d12, d13, d23, ⟨[], by rw [upd_ne t0, upd_ne d03, upd_ne d02, upd_ne d01, upd_same], .nil⟩, ⟨[], by rw [upd_ne t1, upd_ne d13, upd_ne d12, upd_same], .nil⟩, ⟨[], by rw [upd_ne t2, upd_ne d23, upd_same], .nil⟩, ⟨[], by rw [upd_ne t3, upd_same], .nil⟩⟩
  · intro j a l _ ha hl
    obtain ⟨l', hl', hL⟩ := paired_at hpr ha
    rw [hl] at hl'
    cases hl'
    exact hL.same sS
  · obtain ⟨k, y4, y5, rfl, _, _, _, hs⟩ := hI
    rcases hp with (hp | ⟨o, hp⟩) | hp
    · exact .inl (.inl (hs _ _ (fun z => by
        obtain ⟨j, hj, ej⟩ := List.mem_iff_getElem.mp z
        obtain ⟨l, _, hL⟩ := paired_at hpr (List.getElem?_eq_getElem hj)
        rw [ej] at hL
        obtain ⟨dx, n, wl, c, g1, g2⟩ := hL.ex
        rw [hp] at g1
        cases g1) hp))
    · exact .inl (.inr ⟨o, hs _ _ (fun z => by
        obtain ⟨j, hj, ej⟩ := List.mem_iff_getElem.mp z
        obtain ⟨l, _, hL⟩ := paired_at hpr (List.getElem?_eq_getElem hj)
        rw [ej] at hL
        obtain ⟨dx, n, wl, c, g1, g2⟩ := hL.ex
        rw [hp] at g1
        cases g1) hp⟩)
    · exact .inr hp
  · obtain ⟨k, y4, y5, rfl, hk, hT, hLs, hs⟩ := hI
    rw [List.getElem?_map] at hx
    cases ha : as[i]? with
    | none => rw [ha] at hx; cases hx
    | some a =>
    rw [ha] at hx
    have ex : V.ref a = x := Option.some.inj hx
    subst ex
    have hmem : a ∈ as := List.mem_of_getElem? ha
    have hi : i < (restW W).length := by
      rw [← hlen]
      exact (List.getElem?_eq_some_iff.mp ha).1
    have far : ∀ j b, i + 1 ≤ j → as[j]? = some b → b ≠ a := fun j b hj hb z => by
      subst z
      obtain ⟨q1, e1⟩ := List.getElem?_eq_some_iff.mp ha
      obtain ⟨q2, e2⟩ := List.getElem?_eq_some_iff.mp hb
      have := (List.getElem_inj hnd).mp (e1.trans e2.symm)
      omega
    have neR : ∀ j l, (restW W)[j]? = some l → l ≠ [] := fun j l hl => by
      have hm : l ∈ restW W := List.mem_of_getElem? hl
      exact (linesW_ok wok l (List.mem_cons_of_mem _ hm)).1
    have nS := wok.nSats
    have nT := wok.nStas
    have nR := wok.nRecs
    have nP := wok.nPass
    have lS : (preS W i).length ≤ W.sats.length := by unfold preS; rw [List.length_take]; omega
    have lT : (preT W i).length ≤ W.stas.length := by unfold preT; rw [List.length_take]; omega
    have lR : (preR W i).length ≤ W.recs.length := by unfold preR; rw [List.length_take]; omega
    have lP : (preP W i).length ≤ W.pass.length := by unfold preP; rw [List.length_take]; omega
    have km := kindW_mono W i
    rcases restW_at W hi with ⟨s, hkd, hsm, hw, hat, e1, e2, e3, e4⟩ | ⟨s, hkd, hsm, hw, hat, e1, e2, e3, e4, eS⟩ | ⟨s, hkd, hsm, hw, hat, e1, e2, e3, e4, eS, eT⟩ | ⟨s, hkd, hsm, hw, hat, e1, e2, e3, e4, eS, eT⟩
    · have hL := hLs i a _ (Nat.le_refl _) ha hw
      obtain ⟨xs, ax, bx⟩ := hT.sats
      have lx := paired_len bx
      have hlt : (preS W i).length < W.sats.length := by
        have z := (List.getElem?_eq_some_iff.mp hat).1
        unfold preS
        rw [List.length_take]
        omega
      refine ⟨_, rfl, _, rfl, _, rfl, a, _, k, th, [l0, l1, l2, l3], l0, xs, 0, "satellite", 3, rfl, hL, rfl, rfl, by omega, hT.list, rfl, SqL.of ax, rfl, by omega, fun H2 s1 L1 => ?_⟩
      have hT1 := hT.sx hL s1
      refine ⟨_, rfl, aR, _, _, .ref fS, rfl, rfl, T.t_READERS _, atI_nat (j := 0) rfl, ?_⟩
      obtain ⟨dx0, n0, wl0, c0, g1, g2⟩ := hL.ex
      have ax1 : H2 l0 = some (.lst xs) := s1 _ _ (ne_of ax g1 (fun z => nomatch z)) ax
      refine ⟨_, rfl, _, rfl, th, _, _, .ref l0, rfl, rfl, hT1.list, atI_nat (j := 0) rfl, .inl ⟨rfl, _, SqL.of ax1⟩, fS, _, rfl, S0, _, rfl, _, rfl, _, rfl, ?_⟩
      refine ⟨a, W.horizon, th, s, _, rfl, L1, (hT.n0 T (by omega)).sameX hL s1, (fresh_name (f := (·.name)) wok.dSats hat), wok.sats s hsm, wok.horizon.1, wok.horizon.2, fun b H3 nb s2 L2 o2 => ?_⟩
      have hT2 := hT1.sx L1 s2
      obtain ⟨dx1, n1', wl1, c1, g3, g4⟩ := L1.ex
      have ax2 : H3 l0 = some (.lst xs) := s2 _ _ (ne_of ax1 g3 (fun z => nomatch z)) ax1
      refine ⟨l0, xs, .ref b, rfl, rfl, ax2, small1000 (by omega), ?_⟩
      have rf := refs_sat bx
      have L3 := L2.up (o := .lst (xs ++ [.ref b])) (neR i _ hw) ax2 rf
      obtain ⟨dx2, fs2, g5, z5⟩ := LnAt.no L3 (m := "finish") (by decide +kernel) (by decide +kernel) (by decide +kernel) (by decide +kernel)
      refine ⟨_, rfl, a, _, _, rfl, g5, z5, a, _, rfl, L3, ?_⟩
      refine ⟨(0 : Int), some (.ref a), some (.ref fS), rfl, by omega, ?_, fun j d l hj hd hl => ?_, SameA.new h0 ((hs.trans (SameA.ofX s1 hmem)).trans (SameA.ofX s2 hmem))⟩
      · rw [e1, e2, e3, e4]
        exact hT2.push0 ax2 o2
      · have nd := far j d hj hd
        exact (((hLs j d l (by omega) hd hl).sx hL nd s1).sx L1 nd s2).up (neR j l hl) ax2 rf
    · have hL := hLs i a _ (Nat.le_refl _) ha hw
      obtain ⟨xs, ax, bx⟩ := hT.stas
      have lx := paired_len bx
      have hlt : (preT W i).length < W.stas.length := by
        have z := (List.getElem?_eq_some_iff.mp hat).1
        unfold preT
        rw [List.length_take]
        omega
      refine ⟨_, rfl, _, rfl, _, rfl, a, _, k, th, [l0, l1, l2, l3], l1, xs, 1, "station", 3, rfl, hL, rfl, rfl, by omega, hT.list, rfl, SqL.of ax, rfl, by omega, fun H2 s1 L1 => ?_⟩
      have hT1 := hT.sx hL s1
      refine ⟨_, rfl, aR, _, _, .ref fT, rfl, rfl, T.t_READERS _, atI_nat (j := 1) rfl, ?_⟩
      obtain ⟨dx0, n0, wl0, c0, g1, g2⟩ := hL.ex
      have ax1 : H2 l1 = some (.lst xs) := s1 _ _ (ne_of ax g1 (fun z => nomatch z)) ax
      refine ⟨_, rfl, _, rfl, th, _, _, .ref l1, rfl, rfl, hT1.list, atI_nat (j := 1) rfl, .inl ⟨rfl, _, SqL.of ax1⟩, fT, _, rfl, S1, _, rfl, _, rfl, _, rfl, ?_⟩
      refine ⟨a, W.horizon, th, s, _, rfl, L1, (hT.n1 T (by omega)).sameX hL s1, (fresh_name (f := (·.name)) wok.dStas hat), wok.stas s hsm, fun b H3 nb s2 L2 o2 => ?_⟩
      have hT2 := hT1.sx L1 s2
      obtain ⟨dx1, n1', wl1, c1, g3, g4⟩ := L1.ex
      have ax2 : H3 l1 = some (.lst xs) := s2 _ _ (ne_of ax1 g3 (fun z => nomatch z)) ax1
      refine ⟨l1, xs, .ref b, rfl, rfl, ax2, small1000 (by omega), ?_⟩
      have rf := refs_sta bx
      have L3 := L2.up (o := .lst (xs ++ [.ref b])) (neR i _ hw) ax2 rf
      obtain ⟨dx2, fs2, g5, z5⟩ := LnAt.no L3 (m := "finish") (by decide +kernel) (by decide +kernel) (by decide +kernel) (by decide +kernel)
      refine ⟨_, rfl, a, _, _, rfl, g5, z5, a, _, rfl, L3, ?_⟩
      refine ⟨(1 : Int), some (.ref a), some (.ref fT), rfl, by omega, ?_, fun j d l hj hd hl => ?_, SameA.new h1' ((hs.trans (SameA.ofX s1 hmem)).trans (SameA.ofX s2 hmem))⟩
      · rw [e1, e2, e3, e4]
        exact hT2.push1 ax2 o2
      · have nd := far j d hj hd
        exact (((hLs j d l (by omega) hd hl).sx hL nd s1).sx L1 nd s2).up (neR j l hl) ax2 rf
    · have hL := hLs i a _ (Nat.le_refl _) ha hw
      obtain ⟨xs, ax, bx⟩ := hT.recs
      have lx := paired_len bx
      have hlt : (preR W i).length < W.recs.length := by
        have z := (List.getElem?_eq_some_iff.mp hat).1
        unfold preR
        rw [List.length_take]
        omega
      refine ⟨_, rfl, _, rfl, _, rfl, a, _, k, th, [l0, l1, l2, l3], l2, xs, 2, "recording", 10, rfl, hL, rfl, rfl, by omega, hT.list, rfl, SqL.of ax, rfl, by omega, fun H2 s1 L1 => ?_⟩
      have hT1 := hT.sx hL s1
      refine ⟨_, rfl, aR, _, _, .ref fR, rfl, rfl, T.t_READERS _, atI_nat (j := 2) rfl, ?_⟩
      obtain ⟨dx0, n0, wl0, c0, g1, g2⟩ := hL.ex
      have ax1 : H2 l2 = some (.lst xs) := s1 _ _ (ne_of ax g1 (fun z => nomatch z)) ax
      refine ⟨_, rfl, _, rfl, th, _, _, .ref l2, rfl, rfl, hT1.list, atI_nat (j := 2) rfl, .inl ⟨rfl, _, SqL.of ax1⟩, fR, _, rfl, S2, _, rfl, _, rfl, _, rfl, ?_⟩
      refine ⟨a, th, W, s, _, rfl, L1, (hT.n2 T (by omega)).sameX hL s1, (by rw [← eS]; exact (hT.n0 T (by omega)).sameX hL s1), (fresh_name (f := (·.name)) wok.dRecs hat), wok, wok.recs s hsm, fun b H3 nb s2 L2 o2 => ?_⟩
      have hT2 := hT1.sx L1 s2
      obtain ⟨dx1, n1', wl1, c1, g3, g4⟩ := L1.ex
      have ax2 : H3 l2 = some (.lst xs) := s2 _ _ (ne_of ax1 g3 (fun z => nomatch z)) ax1
      refine ⟨l2, xs, .ref b, rfl, rfl, ax2, small1000 (by omega), ?_⟩
      have rf := refs_rec bx
      have L3 := L2.up (o := .lst (xs ++ [.ref b])) (neR i _ hw) ax2 rf
      obtain ⟨dx2, fs2, g5, z5⟩ := LnAt.no L3 (m := "finish") (by decide +kernel) (by decide +kernel) (by decide +kernel) (by decide +kernel)
      refine ⟨_, rfl, a, _, _, rfl, g5, z5, a, _, rfl, L3, ?_⟩
      refine ⟨(2 : Int), some (.ref a), some (.ref fR), rfl, by omega, ?_, fun j d l hj hd hl => ?_, SameA.new h2' ((hs.trans (SameA.ofX s1 hmem)).trans (SameA.ofX s2 hmem))⟩
      · rw [e1, e2, e3, e4]
        exact hT2.push2 ax2 o2
      · have nd := far j d hj hd
        exact (((hLs j d l (by omega) hd hl).sx hL nd s1).sx L1 nd s2).up (neR j l hl) ax2 rf
    · have hL := hLs i a _ (Nat.le_refl _) ha hw
      obtain ⟨xs, ax, bx⟩ := hT.pass
      have lx := paired_len bx
      have hlt : (preP W i).length < W.pass.length := by
        have z := (List.getElem?_eq_some_iff.mp hat).1
        unfold preP
        rw [List.length_take]
        omega
      refine ⟨_, rfl, _, rfl, _, rfl, a, _, k, th, [l0, l1, l2, l3], l3, xs, 3, "pass", 10, rfl, hL, rfl, rfl, by omega, hT.list, rfl, SqL.of ax, rfl, by omega, fun H2 s1 L1 => ?_⟩
      have hT1 := hT.sx hL s1
      refine ⟨_, rfl, aR, _, _, .ref fP, rfl, rfl, T.t_READERS _, atI_nat (j := 3) rfl, ?_⟩
      obtain ⟨dx0, n0, wl0, c0, g1, g2⟩ := hL.ex
      have ax1 : H2 l3 = some (.lst xs) := s1 _ _ (ne_of ax g1 (fun z => nomatch z)) ax
      refine ⟨_, rfl, _, rfl, th, _, _, .ref l3, rfl, rfl, hT1.list, atI_nat (j := 3) rfl, .inl ⟨rfl, _, SqL.of ax1⟩, fP, _, rfl, S3, _, rfl, _, rfl, _, rfl, ?_⟩
      refine ⟨a, th, W, s, _, rfl, L1, (hT.n3 T (by omega)).sameX hL s1, (by rw [← eS]; exact (hT.n0 T (by omega)).sameX hL s1), (by rw [← eT]; exact (hT.n1 T (by omega)).sameX hL s1), (fresh_name (f := (·.name)) wok.dPass hat), wok, wok.pass s hsm, fun b H3 nb s2 L2 o2 => ?_⟩
      have hT2 := hT1.sx L1 s2
      obtain ⟨dx1, n1', wl1, c1, g3, g4⟩ := L1.ex
      have ax2 : H3 l3 = some (.lst xs) := s2 _ _ (ne_of ax1 g3 (fun z => nomatch z)) ax1
      refine ⟨l3, xs, .ref b, rfl, rfl, ax2, small1000 (by omega), ?_⟩
      have rf := refs_pas bx
      have L3 := L2.up (o := .lst (xs ++ [.ref b])) (neR i _ hw) ax2 rf
      obtain ⟨dx2, fs2, g5, z5⟩ := LnAt.no L3 (m := "finish") (by decide +kernel) (by decide +kernel) (by decide +kernel) (by decide +kernel)
      refine ⟨_, rfl, a, _, _, rfl, g5, z5, a, _, rfl, L3, ?_⟩
      refine ⟨(3 : Int), some (.ref a), some (.ref fP), rfl, by omega, ?_, fun j d l hj hd hl => ?_, SameA.new h3' ((hs.trans (SameA.ofX s1 hmem)).trans (SameA.ofX s2 hmem))⟩
      · rw [e1, e2, e3, e4]
        exact hT2.push3 ax2 o2
      · have nd := far j d hj hd
        exact (((hLs j d l (by omega) hd hl).sx hL nd s1).sx L1 nd s2).up (neR j l hl) ax2 rf
  · obtain ⟨k, y4, y5, rfl, hk, hT, hLs, hs⟩ := hI
    rw [List.length_map, hlen] at hT
    have f1 : preS W (restW W).length = W.sats := List.take_of_length_le (by rw [restW_len]; omega)
    have f2 : preT W (restW W).length = W.stas := List.take_of_length_le (by rw [restW_len]; omega)
    have f3 : preR W (restW W).length = W.recs := List.take_of_length_le (by rw [restW_len]; omega)
    have f4 : preP W (restW W).length = W.pass := List.take_of_length_le (by rw [restW_len]; omega)
    rw [f1, f2, f3, f4] at hT
    exact ⟨_, rfl, q th l0 l1 l2 l3 H1 hs hT⟩
end
end DP
namespace DP
open PySem PySem.Spec PyProof.Rows L2
/-- a staticmethod of a class -/
structure SMet (K : PySem.W.Frag) (C : Addr) (m : Str) (g : Addr) : Prop where
  ex : ∃ p rest, PySem.W.findCls K (.ref C) (.type "type") m = some (.get (.builtin "staticmethod.__get__") (.ref p) .none (.ref C)) ∧ PySem.W.recIn K p "staticmethod" = some (.ref g :: rest)
structure SAt (K : PySem.W.Frag) (C : Addr) (m qual : Str) (st : Stmt) (ps : List Str) : Prop where
  ex : ∃ f fd, Fun K m qual st f fd ∧ SMet K C m f ∧ Binds K fd ps []
structure SDef (P : Program) (w : World) (K : PySem.W.Frag) (mg : Str → Option Value) (base : Heap) (CX : CXT) (k : Nat) (C : Addr) (m : Str) (ps : List Str) (sp : Sp) : Prop where
  ex : ∃ f fd, FnOk P w K mg base CX k f fd ps sp ∧ SMet K C m f ∧ PySem.W.keepIn K (.ref f) = true ∧ Binds K fd ps []
def tSMeth (C : Addr) (sp : Sp) (E : XK) (ta : TE) (t : TA) : TE := fun σ H Q => ta σ H fun x H1 => x = .ref C ∧ t σ H1 fun vs H2 => sp vs H2 Q E
theorem pe_smeth {X : Cx} {CX : CXT} {k : Nat} {C : Addr} {m : Str} {ps : List Str} {sp : Sp} {E : XK} {o e : Expr} {es : List Expr} {ta : TE} {t : TA} {pos apos : Pos} {pl : Sem Bool}
    (D : SDef X.prog X.w X.K X.mg X.base CX k C m ps sp) (rd : ClX.CRead X.K C (.type "type")) (hr : Room k X.A) (hx : Passes CX X E) (he : PE X o ta) (ha : PA X (e :: es) t)
    (hst : starEach (e :: es) X.env = (false, eval e X.env) :: starEach es X.env := by rfl) (hpl : (backTo pos (starEach es X.env)).any (·.1) = false := by rfl)
    (ht : eval (.Call (.Attribute o m apos) (e :: es) [] pos) X.env = (do
      let ov ← eval o X.env
      standAt apos.atName
      let (f, first) ← holding [ov] (getMethod ov m pl)
      callWith pos f first (backTo pos (starEach (e :: es) X.env)) (backToKw pos (keywordEach [] X.env))) := by rfl) :
    PE X (.Call (.Attribute o m apos) (e :: es) [] pos) (tSMeth C sp E ta t) := by
  obtain ⟨f, fd, G, ⟨p, rest, e1, e2⟩, kp, b⟩ := D.ex
  refine ⟨fun pins s σ H Q I h => ?_⟩
  refine PySem.W.methodCall_KW (pl := pl) (thn (he.run pins s σ H _ I h) fun u s1 ⟨x, H1, I1, rx, ex, q⟩ => ?_) ht
  subst ex
  obtain rfl : u = Value.ref C := rx
  have I2 := I1.tok (s1.toks + 1)
  refine PySem.W.method_cls I1.kIn rd.ga (PySem.W.cls_bind I1.kIn rd.rd e1 (wpAny_call (PySem.W.sm_get (s := { s1 with toks := s1.toks + 1 }) I2.kIn e2 (PySem.W.handed_on (handed_of (v := .ref f) rfl) ?_))))
  refine PySem.W.callWith_K (h₀ := X.base) I.ok.mod.kin kp (thn (ha.run pos pins _ σ H1 _ I2 q) fun us s3 ⟨vs, H2, I3, r, q2⟩ => ⟨I3.kIn, ?_⟩) hst hpl
  rw [← List.append_nil vs] at q2
  exact run_fn (dvs := []) (ds := []) G hr b .nil hx I3 r q2
section
variable {P : Program} {w : World} {K : PySem.W.Frag} {mg : Str → Option Value} {base : Heap} {C : Addr} {m qual : Str} {st : Stmt} {ps N : List Str} {k : Nat} {sp : Sp}
theorem SAt.ok (F : SAt K C m qual st ps) (S : FnScope N ps (defScope st)) (len : ∀ vs H Q E, sp vs H Q E → vs.length = ps.length)
    (hbody : ∀ (f : Addr) (cdv : Value) (A : Around) (outer : List Env) (s : Shared) (H : Hp) (vs : List V) (Q : VK) (E : XK), Room k (A.deeper (envOfC qual (defScope st) s.heap.objs.size f cdv)) → sp vs H Q E →
      ∃ t, PSs (cxOf CX0 P w K mg base N qual (defScope st) f cdv A outer s H E).nox (defBody st) t ∧ t { nx := fun _ H' => Q .non H', rt := Q } (start N vs) H) : SDef P w K mg base CX0 (k + 1) C m ps sp := by
  obtain ⟨f, fd, G, M, b⟩ := F.ex
  exact ⟨f, fd, G.ok S len (fun cdv A outer s H vs Q E hr h => hbody f cdv A outer s H vs Q E hr h), M, G.kp, b⟩
end
def worF (u : Str) (h : Int) (t0 t1 t2 t3 : Addr) : List (Str × V) := [("text", .str u), ("horizon", .int h), ("satellites", .ref t0), ("stations", .ref t1), ("recordings", .ref t2), ("passes", .ref t3)]
structure WorldAt (K : PySem.W.Frag) (CS CT CR CP CW : Addr) (H : Hp) (a : Addr) (W : WorldD) : Prop where
  ex : ∃ dx t0 t1 t2 t3 x0 x1 x2 x3, H a = some (.ins CW dx (worF (textW W) W.horizon t0 t1 t2 t3)) ∧ SqT K H t0 x0 ∧ Paired (SatAt K CS H) x0 W.sats ∧ SqT K H t1 x1 ∧ Paired (StaAt CT H) x1 W.stas ∧
    SqT K H t2 x2 ∧ Paired (RecAt CR H) x2 W.recs ∧ SqT K H t3 x3 ∧ Paired (PasAt K CP H) x3 W.pass
theorem WorldAt.same {K : PySem.W.Frag} {CS CT CR CP CW : Addr} {H H' : Hp} {a : Addr} {W : WorldD} (h : WorldAt K CS CT CR CP CW H a W) (z : Same H H') : WorldAt K CS CT CR CP CW H' a W := by
  obtain ⟨dx, t0, t1, t2, t3, x0, x1, x2, x3, g, a0, b0, a1, b1, a2, b2, a3, b3⟩ := h.ex
  exact ⟨dx, t0, t1, t2, t3, x0, x1, x2, x3, z _ _ g, Same.tup z a0, Paired.mapP b0 fun _ _ y => y.same z, Same.tup z a1, Paired.mapP b1 fun _ _ y => y.same z, Same.tup z a2, Paired.mapP b2 fun _ _ y => y.same z, Same.tup z a3, Paired.mapP b3 fun _ _ y => y.same z⟩
section
variable {K : PySem.W.Frag} {CS CT CR CP C : Addr} {H H' : Hp} {x dx th l0 l1 l2 l3 : Addr} {y : V} {S : List SatD} {T : List StaD} {R : List RecD} {P : List PasD}
theorem ne_bare {b D dy : Addr} {fs : List (Str × V)} (hx : H x = some (.ins C dx [])) (hb : H b = some (.ins D dy fs)) (n : fs.length ≠ 0) : b ≠ x := ins_ne hb hx n
/-- the things stay where a new object is filled -/
theorem Thg.bare (h : Thg K CS CT CR CP H th l0 l1 l2 l3 S T R P) (hx : H x = some (.ins C dx [])) (z : SameX x H H') : Thg K CS CT CR CP H' th l0 l1 l2 l3 S T R P := by
  obtain ⟨x0, a0, b0⟩ := h.sats
  obtain ⟨x1, a1, b1⟩ := h.stas
  obtain ⟨x2, a2, b2⟩ := h.recs
  obtain ⟨x3, a3, b3⟩ := h.pass
  refine ⟨z _ _ (ne_of h.tup hx (fun z => nomatch z)) h.tup, h.d01, h.d02, h.d03, h.d12, h.d13, h.d23, ⟨x0, z _ _ (ne_of a0 hx (fun z => nomatch z)) a0, Paired.mapP b0 fun _ _ q => ?_⟩, ⟨x1, z _ _ (ne_of a1 hx (fun z => nomatch z)) a1, Paired.mapP b1 fun _ _ q => ?_⟩,
    ⟨x2, z _ _ (ne_of a2 hx (fun z => nomatch z)) a2, Paired.mapP b2 fun _ _ q => ?_⟩, ⟨x3, z _ _ (ne_of a3 hx (fun z => nomatch z)) a3, Paired.mapP b3 fun _ _ q => ?_⟩⟩
  · obtain ⟨b, dx, t, ls, h1, h2, h3, h4⟩ := q
    exact ⟨b, dx, t, ls, h1, z _ _ (ne_bare hx h2 (by show 8 ≠ 0; decide)) h2, z.sqT hx h3, z.spans hx h4⟩
  · obtain ⟨b, dx, h1, h2⟩ := q
    exact ⟨b, dx, h1, z _ _ (ne_bare hx h2 (by show 3 ≠ 0; decide)) h2⟩
  · obtain ⟨b, dx, h1, h2⟩ := q
    exact ⟨b, dx, h1, z _ _ (ne_bare hx h2 (by show 10 ≠ 0; decide)) h2⟩
  · obtain ⟨b, dx, t, h1, h2, h3⟩ := q
    exact ⟨b, dx, t, h1, z _ _ (ne_bare hx h2 (by show 7 ≠ 0; decide)) h2, z.sqT hx h3⟩
end
section
variable {P : Program} {w : World} {K : PySem.W.Frag} {mg : Str → Option Value} {base : Heap} {CL CS CT CR CP CW aS aR fS fT fR fP : Addr}
def spWInit (K : PySem.W.Frag) (CS CT CR CP CW : Addr) : Sp := fun vs H Q _ => ∃ (x dx : Addr) (W : WorldD) (th l0 l1 l2 l3 : Addr), vs = [.ref x, .str (textW W), .int W.horizon, .ref th] ∧ H x = some (.ins CW dx []) ∧
  Thg K CS CT CR CP H th l0 l1 l2 l3 W.sats W.stas W.recs W.pass ∧ ∀ H', SameX x H H' → WorldAt K CS CT CR CP CW H' x W → Q .non H'
theorem dI_World (T : TxtW K mg CL CS CT CR CP CW aS aR fS fT fR fP) (A : MAt K CW "__init__" "World.__init__" s_World___init__ ["self", "text", "horizon", "things"]) : MDef P w K mg base CX0 1 CW "__init__" ["self", "text", "horizon", "things"] [] (spWInit K CS CT CR CP CW) := by
  have B := T.L.B
  refine A.ok sc_World___init__ (fun vs H Q E h => ?_) (fun f cdv A outer s H vs Q E hr h => ?_)
  · obtain ⟨x, dx, W, th, l0, l1, l2, l3, rfl, _⟩ := h
    rfl
  obtain ⟨x, dx, W, th, l0, l1, l2, l3, rfl, hx, hT, q⟩ := h
  refine ⟨_, pss_cons (ps_asg (pv 3) (pg_tup (by rfl) (pgs_cons (pg_name (i := 4) sc_World___init__.nd rfl (Or.inl rfl)) (pgs_cons (pg_name (i := 5) sc_World___init__.nd rfl (Or.inl rfl)) (pgs_cons (pg_name (i := 6) sc_World___init__.nd rfl (Or.inl rfl)) (pgs_cons (pg_name (i := 7) sc_World___init__.nd rfl (Or.inl rfl)) (pgs_nil)))))))
  (pss_cons (ps_fld (pv 0) (pv 1) rfl)
  (pss_cons (ps_fld (pv 0) (pv 2) rfl)
  (pss_cons (ps_fld (pv 0) (pe_callTy (call_tuple_of) (by rfl) B.tuple (by decide +kernel) (pa_cons (pv 4) pa_nil)) rfl)
  (pss_cons (ps_fld (pv 0) (pe_callTy (call_tuple_of) (by rfl) B.tuple (by decide +kernel) (pa_cons (pv 5) pa_nil)) rfl)
  (pss_cons (ps_fld (pv 0) (pe_callTy (call_tuple_of) (by rfl) B.tuple (by decide +kernel) (pa_cons (pv 6) pa_nil)) rfl)
  (pss_one (ps_fld (pv 0) (pe_callTy (call_tuple_of) (by rfl) B.tuple (by decide +kernel) (pa_cons (pv 7) pa_nil)) rfl)))))))
    , ?_⟩
  have cl := T.c_World.cl
  refine ⟨_, rfl, th, _, rfl, SqT.of hT.tup, rfl, _, _, rfl, _, _, rfl, _, _, rfl, _, _, rfl, rfl, ?_⟩
  refine ⟨_, rfl, _, rfl, x, CW, dx, _, rfl, hx, cl, T.n_World_text, (by show 0 < 1000; decide), ?_⟩
  rw [put_nil]
  refine ⟨_, rfl, _, rfl, x, CW, dx, _, rfl, upd_same, cl, T.n_World_horizon, (by show 1 < 1000; decide), ?_⟩
  rw [upd_upd, put_miss (by decide +kernel), put_nil]
  have z1 : SameX x H (upd H x (.ins CW dx [("text", .str (textW W)), ("horizon", .int W.horizon)])) := SameX.upd
  obtain ⟨x0, a0, b0⟩ := (hT.bare hx z1).sats
  refine ⟨_, rfl, l0, x0, rfl, .inl ⟨SqL.of a0, fun t0 ht0 => ?_⟩⟩
  have e0 : x ≠ t0 := fun z => by rw [← z, upd_same] at ht0; cases ht0
  refine ⟨_, rfl, x, CW, dx, _, rfl, (upd_ne e0).trans upd_same, cl, T.n_World_satellites, (by show 2 < 1000; decide), ?_⟩
  rw [put_miss (by decide +kernel), put_miss (by decide +kernel), put_nil]
  have z2 : SameX x H (upd (upd (upd H x (.ins CW dx [("text", .str (textW W)), ("horizon", .int W.horizon)])) t0 (.tup x0)) x (.ins CW dx [("text", .str (textW W)), ("horizon", .int W.horizon), ("satellites", .ref t0)])) := (z1.trans (SameX.of (same_new ht0 _))).trans SameX.upd
  generalize hH2 : (upd (upd (upd H x (.ins CW dx [("text", .str (textW W)), ("horizon", .int W.horizon)])) t0 (.tup x0)) x (.ins CW dx [("text", .str (textW W)), ("horizon", .int W.horizon), ("satellites", .ref t0)])) = H2 at z2
  have g2 : H2 x = some (.ins CW dx [("text", .str (textW W)), ("horizon", .int W.horizon), ("satellites", .ref t0)]) := by rw [← hH2, upd_same]
  have k0 : H2 t0 = some (.tup x0) := by rw [← hH2, upd_ne e0.symm, upd_same]
  obtain ⟨x1, a1, b1⟩ := (hT.bare hx z2).stas
  refine ⟨_, rfl, l1, x1, rfl, .inl ⟨SqL.of a1, fun t1 ht1 => ?_⟩⟩
  have e1 : x ≠ t1 := ne_of_none g2 ht1
  refine ⟨_, rfl, x, CW, dx, _, rfl, (upd_ne e1).trans g2, cl, T.n_World_stations, (by show 3 < 1000; decide), ?_⟩
  rw [put_miss (by decide +kernel), put_miss (by decide +kernel), put_miss (by decide +kernel), put_nil]
  have z3 : SameX x H2 (upd (upd H2 t1 (.tup x1)) x (.ins CW dx [("text", .str (textW W)), ("horizon", .int W.horizon), ("satellites", .ref t0), ("stations", .ref t1)])) := (SameX.of (same_new ht1 _)).trans SameX.upd
  generalize hH3 : (upd (upd H2 t1 (.tup x1)) x (.ins CW dx [("text", .str (textW W)), ("horizon", .int W.horizon), ("satellites", .ref t0), ("stations", .ref t1)])) = H3 at z3
  have g3 : H3 x = some (.ins CW dx [("text", .str (textW W)), ("horizon", .int W.horizon), ("satellites", .ref t0), ("stations", .ref t1)]) := by rw [← hH3, upd_same]
  have k1 : H3 t1 = some (.tup x1) := by rw [← hH3, upd_ne e1.symm, upd_same]
  obtain ⟨x2, a2, b2⟩ := (hT.bare hx (z2.trans z3)).recs
  refine ⟨_, rfl, l2, x2, rfl, .inl ⟨SqL.of a2, fun t2 ht2 => ?_⟩⟩
  have e2 : x ≠ t2 := ne_of_none g3 ht2
  refine ⟨_, rfl, x, CW, dx, _, rfl, (upd_ne e2).trans g3, cl, T.n_World_recordings, (by show 4 < 1000; decide), ?_⟩
  rw [put_miss (by decide +kernel), put_miss (by decide +kernel), put_miss (by decide +kernel), put_miss (by decide +kernel), put_nil]
  have z4 : SameX x H3 (upd (upd H3 t2 (.tup x2)) x (.ins CW dx [("text", .str (textW W)), ("horizon", .int W.horizon), ("satellites", .ref t0), ("stations", .ref t1), ("recordings", .ref t2)])) := (SameX.of (same_new ht2 _)).trans SameX.upd
  generalize hH4 : (upd (upd H3 t2 (.tup x2)) x (.ins CW dx [("text", .str (textW W)), ("horizon", .int W.horizon), ("satellites", .ref t0), ("stations", .ref t1), ("recordings", .ref t2)])) = H4 at z4
  have g4 : H4 x = some (.ins CW dx [("text", .str (textW W)), ("horizon", .int W.horizon), ("satellites", .ref t0), ("stations", .ref t1), ("recordings", .ref t2)]) := by rw [← hH4, upd_same]
  have k2 : H4 t2 = some (.tup x2) := by rw [← hH4, upd_ne e2.symm, upd_same]
  obtain ⟨x3, a3, b3⟩ := (hT.bare hx ((z2.trans z3).trans z4)).pass
  refine ⟨_, rfl, l3, x3, rfl, .inl ⟨SqL.of a3, fun t3 ht3 => ?_⟩⟩
  have e3 : x ≠ t3 := ne_of_none g4 ht3
  refine ⟨_, rfl, x, CW, dx, _, rfl, (upd_ne e3).trans g4, cl, T.n_World_passes, (by show 5 < 1000; decide), ?_⟩
  rw [put_miss (by decide +kernel), put_miss (by decide +kernel), put_miss (by decide +kernel), put_miss (by decide +kernel), put_miss (by decide +kernel), put_nil]
  have z5 : SameX x H4 (upd (upd H4 t3 (.tup x3)) x (.ins CW dx (worF (textW W) W.horizon t0 t1 t2 t3))) := (SameX.of (same_new ht3 _)).trans SameX.upd
  have zz := (((z2.trans z3).trans z4).trans z5)
  have hTT := hT.bare hx zz
  have c0 : ∀ {y0 : List V}, Paired (SatAt K CS H) y0 W.sats → True := fun _ => True.intro
  obtain ⟨y0, q0, r0⟩ := hT.sats
  obtain ⟨y1, q1, r1⟩ := hT.stas
  obtain ⟨y2, q2, r2⟩ := hT.recs
  obtain ⟨y3, q3, r3⟩ := hT.pass
  obtain ⟨w0, u0, v0⟩ := hTT.sats
  obtain ⟨w1, u1, v1⟩ := hTT.stas
  obtain ⟨w2, u2, v2⟩ := hTT.recs
  obtain ⟨w3, u3, v3⟩ := hTT.pass
  have n0 : l0 ≠ x := ne_of q0 hx (fun z => nomatch z)
  have n1 : l1 ≠ x := ne_of q1 hx (fun z => nomatch z)
  have n2 : l2 ≠ x := ne_of q2 hx (fun z => nomatch z)
  have n3 : l3 ≠ x := ne_of q3 hx (fun z => nomatch z)
  have j0 : w0 = x0 := HO.lst.inj (Option.some.inj (u0.symm.trans ((((z2.trans z3).trans z4).trans z5) _ _ n0 q0 |>.trans (by rw [← (z1 _ _ n0 q0).symm.trans a0]))))
  have j1 : w1 = x1 := HO.lst.inj (Option.some.inj (u1.symm.trans ((((z2.trans z3).trans z4).trans z5) _ _ n1 q1 |>.trans (by rw [← (z2 _ _ n1 q1).symm.trans a1]))))
  have j2 : w2 = x2 := HO.lst.inj (Option.some.inj (u2.symm.trans ((((z2.trans z3).trans z4).trans z5) _ _ n2 q2 |>.trans (by rw [← ((z2.trans z3) _ _ n2 q2).symm.trans a2]))))
  have j3 : w3 = x3 := HO.lst.inj (Option.some.inj (u3.symm.trans ((((z2.trans z3).trans z4).trans z5) _ _ n3 q3 |>.trans (by rw [← (((z2.trans z3).trans z4) _ _ n3 q3).symm.trans a3]))))
  subst j0 j1 j2 j3
  exact q _ zz ⟨dx, t0, t1, t2, t3, w0, w1, w2, w3, upd_same, SqT.of (z5 _ _ e0.symm (z4 _ _ e0.symm (z3 _ _ e0.symm k0))), v0, SqT.of (z5 _ _ e1.symm (z4 _ _ e1.symm k1)), v1, SqT.of (z5 _ _ e2.symm k2), v2, SqT.of (by rw [upd_ne e3.symm, upd_same]), v3⟩
end
end DP
namespace DP
open PySem PySem.Spec PyProof.Rows L2
section
variable {P : Program} {w : World} {K : PySem.W.Frag} {mg : Str → Option Value} {base : Heap} {CL CS CT CR CP CW aS aR fS fT fR fP : Addr}
def spParse (K : PySem.W.Frag) (CS CT CR CP CW : Addr) : Sp := fun vs H Q _ => ∃ W : WorldD, vs = [.str (textW W)] ∧ WorldOk W ∧ ∀ a H', H a = none → Same H H' → WorldAt K CS CT CR CP CW H' a W → Q (.ref a) H'
theorem d_parse (T : TxtW K mg CL CS CT CR CP CW aS aR fS fT fR fP) (D_lines_of : DefOk P w K mg base CX0 3 "lines_of" ["text"] (spLines CL)) (D_Line_read_field : MDef P w K mg base CX0 4 CL "read_field" ["self", "word", "least", "most"] [] (spField CL))
    (D_Line_finish : MDef P w K mg base CX0 3 CL "finish" ["self"] [] (spFinish CL)) (D_read_things : DefOk P w K mg base CX0 6 "read_things" ["lines", "horizon"] (spThings K CL CS CT CR CP))
    (DI_World : MDef P w K mg base CX0 1 CW "__init__" ["self", "text", "horizon", "things"] [] (spWInit K CS CT CR CP CW)) (A : SAt K CW "parse" "World.parse" s_World_parse ["text"]) : SDef P w K mg base CX0 7 CW "parse" ["text"] (spParse K CS CT CR CP CW) := by
  have B := T.L.B
  refine A.ok sc_World_parse (fun vs H Q E h => ?_) (fun f cdv A outer s H vs Q E hr h => ?_)
  · obtain ⟨W, rfl, _⟩ := h
    rfl
  obtain ⟨W, rfl, wok, q⟩ := h
  refine ⟨_, pss_cons (ps_set (i := 1) sc_World_parse.nd rfl (Or.inl rfl) (pe_f D_lines_of (hr.mono (by omega)) pass0 (pa_cons (pv 0) pa_nil)))
  (pss_cons (ps_if (pt_cmpR op_eq (pe_callB (call_len_seq) (by rfl) B.len (by decide +kernel) (pa_cons (pv 1) pa_nil)) pe_int (nomark _))
      (pss_one (ps_never))
      (pss_nil))
  (pss_cons (ps_set (i := 2) sc_World_parse.nd rfl (Or.inl rfl) (pe_m D_Line_read_field T.c_Line.cl (hr.mono (by omega)) pass0 (pe_ix ix_list (pv 1) pe_int (fun _ _ => rfl)) (pa_cons pe_str (pa_cons pe_int (pa_cons (ClX.pe_cval (pe_ga T.c_World.gC) rfl) pa_nil)))))
  (pss_cons (ps_expr (pe_m0 D_Line_finish T.c_Line.cl (hr.mono (by omega)) pass0 (pe_ix ix_list (pv 1) pe_int (fun _ _ => rfl))))
  (pss_one (ps_ret (pe_mk DI_World T.c_World (hr.mono (by omega)) pass0 (pa_cons (pv 0) (pa_cons (pv 2) (pa_cons (pe_f D_read_things (hr.mono (by omega)) pass0 (pa_cons (pe_slice sl_list (pv 1) (po_some pe_int) po_none) (pa_cons (pv 2) pa_nil))) pa_nil)))))))))
    , ?_⟩
  refine ⟨_, rfl, linesW W, rfl, linesW_ok wok, Nat.le_trans (linesW_len wok) (by decide), textW_len wok, fun p as H1 s1 hp hfr hnd hpp hpr => ?_⟩
  obtain ⟨a0, ar, rfl⟩ : ∃ a0 ar, as = a0 :: ar := by
    cases hpr with
    | cons _ _ => exact ⟨_, _, rfl⟩
  obtain ⟨L0, hpr2⟩ : LnAt CL H1 a0 (wHor W.horizon) 0 ∧ Paired (fun a l => LnAt CL H1 a l 0) ar (restW W) := by
    cases hpr with
    | cons x y => exact ⟨x, y⟩
  have hl0 : a0 ≠ p := by
    obtain ⟨dx, n, wl, c, g1, g2⟩ := L0.ex
    exact ne_of g1 hpp (fun z => nomatch z)
  refine ⟨_, rfl, p, _, rfl, .inl (SqL.of hpp), rfl, _, rfl, iteF' (decide_eq_false fun z => by
    have z2 := V.int.inj z
    rw [List.length_map, List.length_cons] at z2
    omega) ?_⟩
  obtain ⟨tk, hv⟩ := T.v_MOST_HORIZON
  have hh := wok.horizon
  obtain ⟨dx0, fs0, g0, z0⟩ := LnAt.no L0 (m := "read_field") (by decide +kernel) (by decide +kernel) (by decide +kernel) (by decide +kernel)
  refine ⟨_, rfl, p, _, _, .ref a0, rfl, rfl, SqL.of hpp, atI_nat (j := 0) rfl, a0, _, _, rfl, g0, z0, CW, _, _, _, rfl, T.rdW, hv, a0, _, 0, _, _, _, W.horizon, rfl, L0, rfl, rfl, by omega, by omega, by omega, by omega, fun H2 s2 L2 => ?_⟩
  have hpp2 := s2 _ _ hl0.symm hpp
  obtain ⟨dx1, fs1, g1, z1⟩ := LnAt.no L2 (m := "finish") (by decide +kernel) (by decide +kernel) (by decide +kernel) (by decide +kernel)
  refine ⟨_, rfl, p, _, _, .ref a0, rfl, rfl, SqL.of hpp2, atI_nat (j := 0) rfl, a0, _, _, rfl, g1, z1, a0, _, rfl, L2, ?_⟩
  have sl : cutV ((a0 :: ar).map V.ref) (some 1) none = ar.map V.ref := by
    unfold cutV
    rw [show HT.sIx ((a0 :: ar).map V.ref).length 0 (some 1) = min 1 ((a0 :: ar).map V.ref).length from HT.sIx_nat _ 0 1, HT.sIx_none]
    rw [List.map_cons, List.length_cons, show min 1 ((ar.map V.ref).length + 1) = 1 by omega]
    show List.take ((ar.map V.ref).length + 1 - 1) (ar.map V.ref) = ar.map V.ref
    rw [Nat.add_sub_cancel, List.take_length]
  refine ⟨_, rfl, _, rfl, _, rfl, 1, rfl, p, _, rfl, SqL.of hpp2, fun p2 hp2 => ?_⟩
  rw [sl]
  have nd2 := List.nodup_cons.mp hnd
  refine ⟨_, rfl, p2, ar, W, rfl, SqL.of upd_same, nd2.2, wok, ?_, fun th l0 l1 l2 l3 H3 s3 hT => ?_⟩
  · -- the lines stay
    have key : ∀ {as : List Addr} {ls : List (List Str)}, a0 ∉ as → Paired (fun a l => LnAt CL H1 a l 0) as ls → Paired (fun a l => LnAt CL (upd H2 p2 (.lst (ar.map V.ref))) a l 0) as ls := by
      intro as ls hn hp
      induction hp with
      | nil => exact .nil
      | cons x _ ih =>
        refine .cons ?_ (ih fun z => hn (List.mem_cons_of_mem _ z))
        exact (x.sx L0 (fun z => hn (z ▸ List.mem_cons_self)) s2).same (same_new hp2 _)
    exact key nd2.1 hpr2
  refine fun x dx hx hdx ne => ?_
  have sm : Same H3 (upd (upd H3 dx (.own x)) x (.ins CW dx [])) := fun b o e => by
    rw [upd_ne (ne_of_none e hx), upd_ne (ne_of_none e hdx)]
    exact e
  refine ⟨x, dx, W, th, l0, l1, l2, l3, rfl, upd_same, hT.same sm, fun H4 s4 hW => ⟨rfl, ?_⟩⟩
  have all : Same H H3 := fun b o e => by
    have n0 : b ≠ a0 := ne_of_none e (hfr a0 List.mem_cons_self)
    refine s3 b o (fun z => ?_) (same_new hp2 _ b o (s2 b o n0 (s1 b o e)))
    exact ne_of_none e (hfr b (List.mem_cons_of_mem _ z)) rfl
  refine q x H4 (all.free hx) (fun b o e => ?_) hW
  have e3 := all b o e
  exact s4 b o (ne_of_none e3 hx) (sm b o e3)
end
end DP
namespace DP
open PySem PySem.Spec PyProof.Rows L2
section
variable {prog : Program} {w : World} {A : Around} {R : Result → Shared → Prop} {J : Addr} {fp wr : List Addr} {G : Array GenState → Array GenState → Prop} {n : Nat} {Pv : Nat → Value → Prop} {St : Nat → Shared → Prop} {E : Value → Shared → Prop} {z : Shared}
theorem upd_loop (V : PySem.WalksS prog w A.in1 J fp wr G n Pv St) (S : Addr) (no : S ∉ fp) (f : Nat → Int) (fv : ∀ i v, Pv i v → ∃ t, v = .int (f i) t) (room : n + 1 < scanBound) :
    ∀ (k i : Nat) (z : Shared) (m : Nat), n - i = k → i ≤ n → St i z → m ≤ i → SetR w z.heap S (fun x => ((List.range i).map f).any fun y => decide (x = y)) m →
      (∀ z' m', Moved (S :: wr) G z z' → m' ≤ n → SetR w z'.heap S (fun x => ((List.range n).map f).any fun y => decide (x = y)) m' → R (.ok (.ret .none)) z') →
      codeAny (model prog w) A (.builtin "set.update.loop" ⟨[.ref S, .ref J], []⟩) R z := by
  have nw : S ∉ wr := fun h => no (V.sub _ h)
  have sb : ∀ b ∈ wr, b ∈ S :: wr := fun b hb => List.mem_cons_of_mem _ hb
  intro k
  induction k with
  | zero =>
    intro i z m hk hi st hm rs q
    have e : i = n := by omega
    subst e
    refine codeAny_builtin F.entry_set_update_loop ?_; rw [Around.under_plainId F.plain_set_update_loop _]
    show wpAny _ A.in1 (pyNext (.ref J) >>= _) _ _ z
    refine wpAny_bind (V.done z _ _ st fun z' mv => ?_)
    show wpAny _ A.in1 (ret Value.none) _ _ z'
    exact wpAny_pure (q z' m (mv.mono sb) hm (rs.at fun o e => mv.heap S _ nw e))
  | succ k ih =>
    intro i z m hk hi st hm rs q
    have lt : i < n := by omega
    refine codeAny_builtin F.entry_set_update_loop ?_; rw [Around.under_plainId F.plain_set_update_loop _]
    show wpAny _ A.in1 (pyNext (.ref J) >>= _) _ _ z
    refine wpAny_bind (V.item i z _ _ lt st fun v z' hP st' mv => ?_)
    obtain ⟨t, rfl⟩ := fv i v hP
    have rs' := rs.at (h' := z'.heap) fun o e => mv.heap S _ nw e
    show wpAny _ A.in1 (holding [Value.int (f i) t] (setAdd S (.int (f i) t)) >>= _) _ _ z'
    refine wpAny_bind (wpAny_holding ?_); unfold setAdd
    refine wpAny_holding (wpAny_bind ((intKind prog w).pyHash (k := f i) (intKind_is _ _ _ _) ?_))
    refine setR_add_hashed (s := { z' with toks := z'.toks + 1 }) rs' (by omega) fun h' sm r2 => ?_
    have r3 := r2.congr (S' := fun x => ((List.range (i + 1)).map f).any fun y => decide (x = y)) fun x => by
      rw [List.range_succ, List.map_append, List.any_append]
      simp
    refine wpAny_pure ⟨plainId_quiet F.plain_set_update_loop _, ih (i + 1) _ _ (by omega) lt (V.frame _ z' _ _ st' (Nat.le_succ _) fun b hb o e => ?_) (by split <;> omega) r3 fun z2 m2 mv2 hm2 rs2 => ?_⟩
    · rw [sm.2 b (fun h : b = S => no (by rw [← h]; exact hb))]; exact e
    · refine q z2 m2 (Moved.trans V.gtrans ((mv.mono sb).then_heap (Nat.le_succ _) fun b o hb e => ?_) mv2) hm2 rs2
      rw [sm.2 b (fun h : b = S => hb (by rw [h]; exact List.mem_cons_self))]; exact e
def setNew (w : World) : Obj := { cls := .type "set", dict := none, data := .set #[] 0 (.fresh 0 0 (!w.params.followText "set-order")) }
theorem code_set1 (a : Value) {Q₁ : Value → Shared → Prop} (h : Q₁ (.ref z.heap.objs.size) { z with heap := z.heap.push (setNew w) }) :
    codeAny (model prog w) A (.call (.builtin "set.__new__") ⟨[.type "set", a], []⟩) (wants Q₁ E) z := by
  refine codeAny_of_tree (show wpAny _ A.in1 (do checkBuiltinCall "set.__new__" ⟨[.type "set", a], []⟩; again (.builtin "set.__new__" ⟨[.type "set", a], []⟩)) _ _ z from ?_)
  refine wpAny_bind (wpAny_of_eq (F.newCall_set_1 a) (wpAny_pure ⟨plainId_quiet F.plain_set_new _, codeAny_builtin F.entry_set_new (by
    rw [Around.under_plainId F.plain_set_new _]
    unfold Builtin.«set.__new__» Builtin.Frozenset.newClass
    have hsub := sub_set_self
    obtain ⟨hp, g, d, tk, os⟩ := z
    dsimp only
    wp_walk
    refine wpAny_askSetting (wpAny_pure ?_)
    dsimp only
    simp only [newObj]
    refine wpAny_bind (wpAny_alloc (wpAny_pure ?_))
    exact wpAny_pure h)⟩))
set_option maxHeartbeats 4000000 in
theorem call_set1 {l : Addr} {items : Array Value} {ns : List Int} {Q : Value → Shared → Prop} (ho : A.handled = none) (hl : z.heap.IsList l items) (hi : PyProof.Rows.IntsAre items.toList ns) (hb : items.size + 1 < scanBound)
    (h : ∀ (h' : Heap) (tk m : Nat), m ≤ items.size → SetR w h' z.heap.objs.size (fun x => ((List.range items.size).map fun i => ns.getD i 0).any fun y => decide (x = y)) m →
      (∀ b o, b < z.heap.objs.size → z.heap.get? b = some o → h'.get? b = some o) → Q (.ref z.heap.objs.size) { z with heap := h', toks := tk }) :
    wpAny (model prog w) A (call (.type "set") [.ref l]) Q E z := by
  obtain ⟨c, tl, hmro⟩ := F.called_set.mro
  have hmade := F.called_set.made; have hsub := F.called_set.sub
  refine wpAny_call (codeAny_of_tree (show wpAny _ _ (callAny (.type "set") _) _ _ _ from ?_))
  refine wpAny_pure ⟨Code.quiet_builtin _ (by decide +kernel), codeAny_builtin F.entry_type_call (by
    rw [Around.under_plain (weight_type_call_type "set" [.ref l] []) rfl]
    have h1 := F.called_set.notType; have h2 := F.called_set.canCreate; have hct := F.typeCall_set_1 (.ref l)
    repeat (any_goals (first | assumption | wp_step))
    refine codeAny_mono (code_set1 (.ref l) (E := E) (Q₁ := fun obj z₁ => obj = .ref z.heap.objs.size ∧ z₁ = { z with heap := z.heap.push (setNew w) }) ⟨rfl, rfl⟩) fun r z₁ hr => ?_
    cases r with
    | error e => exact hr
    | ok fl =>
      cases fl with
      | ret obj =>
        obtain ⟨rfl, rfl⟩ := hr
        have gS : (z.heap.push (setNew w)).get? z.heap.objs.size = some (setNew w) := Heap.get?_push_size _ rfl
        have gT : Shared.TypeIs { z with heap := z.heap.push (setNew w) } (.ref z.heap.objs.size) "set" := ⟨_, gS, rfl⟩
        have hli := F.called_set.init.lookup; have hbi := F.called_set.init.bind (.ref z.heap.objs.size)
        repeat (any_goals (first | assumption | wp_step))
        refine codeAny_mono (codeAny_call_builtin (R := wants (fun r z₂ => r = .none ∧ ∃ h' tk m, z₂ = { z with heap := h', toks := tk } ∧ m ≤ items.size ∧ SetR w h' z.heap.objs.size (fun x => ((List.range items.size).map fun i => ns.getD i 0).any fun y => decide (x = y)) m ∧
            (∀ b o, b < z.heap.objs.size → z.heap.get? b = some o → h'.get? b = some o)) E) F.called_set.init.plain F.entry_set_init (check_set_init_1 gT ?_)) fun r₂ z₂ hr₂ => ?_
        · obtain ⟨ol, hol, hcl, nl, hdl⟩ := hl
          obtain ⟨ocls, odict, odata, oslots⟩ := ol
          simp only at hcl hdl
          subst hcl hdl
          have hol2 : (z.heap.push (setNew w)).get? l = some { cls := .type "list", dict := odict, data := .seq items nl, slots := oslots } := Heap.get?_push_of_some _ hol
          have hsls := F.sub_list_set; have hslf := F.sub_list_frozenset
          have hne : (Value.type "list" == Value.type "dict") = false := by decide
          have hl1 : (z.heap.push (setNew w)).IsList l items := ⟨_, hol2, rfl, nl, rfl⟩
          unfold Builtin.«set.__init__» noKeywords Builtin.Frozenset.updateFrom
          generalize hPI : pyIter = PI
          wp_walk
          subst hPI
          refine wpAny_pyIter_list hl1 (wpAny_bind (wpAny_runValue ?_))
          have hlS : l < z.heap.objs.size := Heap.lt_size hol
          have hh3 : A.in1.in1.in1.handled = none := by simp [ho]
          have hneI : l ≠ (z.heap.push (setNew w)).objs.size := by rw [Heap.size_push]; exact Nat.ne_of_lt (Nat.lt_succ_of_lt hlS)
          have hSf : z.heap.objs.size ∉ [(z.heap.push (setNew w)).objs.size, l] := by
            rw [Heap.size_push]; simp only [List.mem_cons, List.not_mem_nil, or_false, not_or]; exact ⟨Nat.ne_of_lt (Nat.lt_succ_self _), Nat.ne_of_gt hlS⟩
          refine upd_loop ((Walks.list hh3 _ l hneI items).toS) z.heap.objs.size hSf (fun i => ns.getD i 0) (fun i v hv => PyProof.Rows.IntsAre.int_at hi i v (by rw [Array.getElem?_toList]; exact hv)) hb (items.size - 0) 0 _ 0 (by omega) (Nat.zero_le _)
            ⟨⟨_, Heap.get?_push_size _ rfl, rfl, rfl⟩, (hl1.push _)⟩ (Nat.le_refl _) (((setR_fresh (h := z.heap) w).congr fun _ => rfl).at fun o e => Heap.get?_push_of_some _ e) fun z' m' mv hm' rs => ?_
          obtain ⟨h', g', d', tk', os'⟩ := z'
          have eg : g' = z.gens := mv.gens
          have ed : d' = z.drawn := mv.drawn
          have eo : os' = z.os := mv.os
          subst eg ed eo
          show wpAny _ _ _ _ _ _
          refine wpAny_pure ?_
          show wpAny _ _ (ret Value.none) _ _ _
          refine wpAny_pure ⟨rfl, h', tk', m', rfl, hm', rs, fun b o hb2 e => ?_⟩
          refine mv.heap b o ?_ (Heap.get?_push_of_some _ (Heap.get?_push_of_some _ e))
          rw [Heap.size_push]; simp only [List.mem_cons, List.not_mem_nil, or_false, not_or]; exact ⟨Nat.ne_of_lt hb2, Nat.ne_of_lt (Nat.lt_succ_of_lt hb2)⟩
        · cases r₂ with
          | error e => exact hr₂
          | ok fl₂ =>
            cases fl₂ with
            | ret r =>
              obtain ⟨rfl, h', tk, m, rfl, hm, rs, hk'⟩ := hr₂
              repeat (any_goals (first | assumption | wp_step))
              exact h _ _ m hm rs hk'
            | _ => exact hr₂.elim
      | _ => exact hr.elim)⟩
end
theorem any_getD (ns : List Int) (x : Int) : (((List.range ns.length).map fun i => ns.getD i 0).any fun y => decide (x = y)) = decide (x ∈ ns) := by
  rw [Bool.eq_iff_iff, List.any_eq_true, decide_eq_true_eq]
  constructor
  · rintro ⟨y, hy, e⟩
    obtain ⟨i, hi, rfl⟩ := List.mem_map.mp hy
    rw [List.mem_range] at hi
    rw [of_decide_eq_true e, List.getD_eq_getElem?_getD, List.getElem?_eq_getElem hi]
    exact List.getElem_mem hi
  · intro h
    obtain ⟨i, hi, rfl⟩ := List.mem_iff_getElem.mp h
    exact ⟨ns[i], List.mem_map.mpr ⟨i, List.mem_range.mpr hi, by rw [List.getD_eq_getElem?_getD, List.getElem?_eq_getElem hi]; rfl⟩, decide_eq_true rfl⟩
/-- set(xs), ints -/
def rSetI (K : PySem.W.Frag) (w : World) : List V → Hp → VK → Prop := fun vs H Q => ∃ (l : Addr) (ns : List Int), vs = [V.ref l] ∧ SqL K H l (ns.map V.int) ∧ ns.length ≤ 1000 ∧ ∀ a m, m ≤ ns.length → H a = none → Q (.ref a) (upd H a (SetO w a (fun x => decide (x ∈ ns)) m))
theorem cr_setI {X : Cx} (hc : X.calm = true) : CallR X (.type "set") (rSetI X.K X.w) := by
  intro pins s σ H xs us Q I r h
  obtain ⟨l, ns, rfl, hl, hn, q⟩ := h
  rw [Vals.ref1 r]
  obtain ⟨its, rv, pl, hz⟩ := I.list hl
  have hs : its.toArray.size = ns.length := by rw [List.size_toArray, ← rv.length, List.length_map]
  refine call_set1 (w := X.w) (I.ok.hd hc) pl.isList (by simpa using rv.ints) (by rw [hs]; unfold scanBound; omega) fun h' tk m hm rs hk => ?_
  rw [hs] at hm rs
  have rs2 := rs.congr (S' := fun x => decide (x ∈ ns)) fun x => (any_getD ns x).symm
  exact ⟨.ref s.heap.objs.size, upd H s.heap.objs.size (SetO X.w s.heap.objs.size (fun x => decide (x ∈ ns)) m), I.laid (t' := tk) (fun b o e => hk b o (Heap.lt_size e) e) (Nat.le_refl _) (setO_new rs2), rfl, q _ m hm (I.hok.fresh (Nat.le_refl _))⟩
end DP
namespace DP
open PySem PySem.Spec PyProof.Rows L2
abbrev s__law_cell : Stmt := topS 72
theorem sc__law_cell : FnScope ["script", "k"] ["script", "k"] (defScope s__law_cell) := ⟨rfl, rfl, rfl, by decide +kernel, rfl, by decide +kernel, by decide +kernel⟩
abbrev s__law_draws : Stmt := topS 73
theorem sc__law_draws : FnScope ["cell", "count", "number", "great", "found", "k", "mixed"] ["cell", "count"] (defScope s__law_draws) := ⟨rfl, rfl, rfl, by decide +kernel, rfl, by decide +kernel, by decide +kernel⟩
abbrev s__law_stream : Stmt := topS 74
theorem sc__law_stream : FnScope ["script", "first", "count", "found", "k"] ["script", "first", "count"] (defScope s__law_stream) := ⟨rfl, rfl, rfl, by decide +kernel, rfl, by decide +kernel, by decide +kernel⟩
abbrev s__law_next : Stmt := topS 75
theorem sc__law_next : FnScope ["stream", "many", "digits", "place", "value"] ["stream", "many"] (defScope s__law_next) := ⟨rfl, rfl, rfl, by decide +kernel, rfl, by decide +kernel, by decide +kernel⟩
section
variable {P : Program} {w : World} {K : PySem.W.Frag} {mg : Str → Option Value} {base : Heap}
/-- some int -/
def spCell (K : PySem.W.Frag) : Sp := fun vs H Q _ => ∃ (a : Addr) (ns : List Int) (k : Int), vs = [.ref a, .int k] ∧ SqL K H a (ns.map V.int) ∧ 0 ≤ k ∧ ∀ v : Int, Q (.int v) H
theorem d_cell (B : Bt mg) (A : At K mg "_law_cell" s__law_cell ["script", "k"]) : DefOk P w K mg base CX0 1 "_law_cell" ["script", "k"] (DP.spCell K) := by
  refine A.ok sc__law_cell (fun vs H Q E h => ?_) (fun f cdv A outer s H vs Q E hr h => ?_)
  · obtain ⟨a, ns, k, rfl, _⟩ := h
    rfl
  obtain ⟨a, ns, k, rfl, hS, h0, q⟩ := h
  refine ⟨_, pss_cons (ps_if (pt_cmpR op_lt (pv 1) (pe_callB (call_len_seq) (by rfl) B.len (by decide +kernel) (pa_cons (pv 0) pa_nil)) (nomark _))
      (pss_one (ps_ret (pe_callTy (call_int1) (by rfl) B.int (by decide +kernel) (pa_cons (pe_ix ix_list (pv 0) (pv 1) (fun _ _ => rfl)) pa_nil))))
      (pss_nil))
  (pss_one (ps_ret pe_int))
    , ?_⟩
  refine ⟨_, rfl, _, rfl, a, _, rfl, .inl hS, _, _, rfl, rfl, _, rfl, ?_⟩
  refine ite2 (fun c => ?_) (fun c => ?_)
  · have c' : k < (((ns.map V.int).length : Nat) : Int) := of_decide_eq_true c
    rw [List.length_map] at c'
    have hk : k.toNat < ns.length := by omega
    have ek : k = ((k.toNat : Nat) : Int) := by omega
    have g : (ns.map V.int)[k.toNat]? = some (.int ns[k.toNat]) := by rw [List.getElem?_map, List.getElem?_eq_getElem hk] <;> rfl
    have g2 : atI (ns.map V.int) k = some (.int ns[k.toNat]) := by
      have := atI_nat g
      rw [← ek] at this
      exact this
    exact ⟨_, rfl, _, rfl, a, _, _, _, rfl, rfl, hS, g2, .inl ⟨_, rfl, q _⟩⟩
  · exact q 0
/-- a new list of twelve ints -/
def spDraws : Sp := fun vs H Q _ => ∃ c : Int, vs = [.int c, .int 12] ∧ ∀ (p : Addr) (ds : List Int) (H' : Hp), Same H H' → H p = none → ds.length = 12 → H' p = some (.lst (ds.map V.int)) → Q (.ref p) H'
theorem d_draws (B : Bt mg) (A : At K mg "_law_draws" s__law_draws ["cell", "count"]) : DefOk P w K mg base CX0 1 "_law_draws" ["cell", "count"] spDraws := by
  refine A.ok sc__law_draws (fun vs H Q E h => ?_) (fun f cdv A outer s H vs Q E hr h => ?_)
  · obtain ⟨c, rfl, _⟩ := h
    rfl
  obtain ⟨c, rfl, q⟩ := h
  refine ⟨_, pss_cons (ps_set (i := 2) sc__law_draws.nd rfl (Or.inl rfl) (pe_callB (call_abs) (by rfl) B.abs (by decide +kernel) (pa_cons (pe_callTy (call_int1) (by rfl) B.int (by decide +kernel) (pa_cons (pv 0) pa_nil)) pa_nil)))
  (pss_cons (ps_set (i := 3) sc__law_draws.nd rfl (Or.inl rfl) (pe_cmpR op_ge (pv 2) (pe_op op_pow pe_int pe_int) (nomark _)))
  (pss_cons (ps_set (i := 4) sc__law_draws.nd rfl (Or.inl rfl) (pe_lst pa_nil))
  (pss_cons (ps_for PassesOwn.never rfl (pi_range1 (by rfl) B.range (pa_cons pe_int pa_nil)) (pg_name (i := 5) sc__law_draws.nd rfl (Or.inl rfl))
      (pss_one (ps_if (PW.pt (pw_and (pt_cmpR op_lt (pv 5) (pv 1) (nomark _)) (pw_and1 (pt_val (pv 3)))))
          (pss_cons (ps_expr (pe_bm PySem.F.plainAttrs_list PySem.F.slot_list_append PySem.F.type_list_append mt_append (pv 4) (pa_cons (pe_op op_mod (pv 2) pe_int) pa_nil)))
          (pss_one (ps_set (i := 2) sc__law_draws.nd rfl (Or.inl rfl) (pe_op op_fdiv (pv 2) pe_int))))
          (pss_one (ps_if (pt_cmpR op_lt (pv 5) (pv 1) (nomark _))
              (pss_cons (ps_set (i := 6) sc__law_draws.nd rfl (Or.inl rfl) (pe_op op_mod (pe_op op_add (pe_op op_add (pe_op op_mul (pe_callTy (call_int1) (by rfl) B.int (by decide +kernel) (pa_cons (pv 2) pa_nil)) pe_int) (pe_op op_mul (pv 5) pe_int)) pe_int) pe_int))
              (pss_cons (ps_set (i := 6) sc__law_draws.nd rfl (Or.inl rfl) (pe_op op_mod (pe_op op_add (pe_op op_add (pe_op op_mul (pe_callTy (call_int1) (by rfl) B.int (by decide +kernel) (pa_cons (pv 6) pa_nil)) (pe_callTy (call_int1) (by rfl) B.int (by decide +kernel) (pa_cons (pv 6) pa_nil))) (pe_op op_mul (pv 5) pe_int)) pe_int) pe_int))
              (pss_one (ps_expr (pe_bm PySem.F.plainAttrs_list PySem.F.slot_list_append PySem.F.type_list_append mt_append (pv 4) (pa_cons (pe_op op_mod (pe_callTy (call_int1) (by rfl) B.int (by decide +kernel) (pa_cons (pv 6) pa_nil)) pe_int) pa_nil))))))
              (pss_nil))))))
  (pss_one (ps_ret (pv 4))))))
    , ?_⟩
  refine ⟨_, rfl, .inl ⟨_, rfl, c, rfl, ?_⟩⟩
  generalize hn0 : (if c < 0 then -c else c) = n0
  have p0 : 0 ≤ n0 := by
    rw [← hn0]
    split <;> omega
  refine ⟨_, rfl, _, _, rfl, rfl, ⟨by decide, by decide, by decide⟩, _, _, rfl, rfl, Nat.zero_le _, fun p hp => ?_⟩
  obtain ⟨g, hg⟩ : ∃ g, decide ((10 : Int) ^ (18 : Int).toNat ≤ n0) = g := ⟨_, rfl⟩
  have hsmall : g = false → n0 < 10 ^ 18 := fun e => by
    rw [e] at hg
    have := of_decide_eq_false hg
    have e2 : (10 : Int) ^ (18 : Int).toNat = 10 ^ 18 := rfl
    rw [e2] at this
    omega
  refine ⟨60, rfl, by decide, by decide, for_range (n := 60) (fun i σ H' => ∃ (num : Int) (ds : List Int) (y5 y6 : Option V), σ = [some (.int c), some (.int 12), some (.int num), some (.bl g), some (.ref p), y5, y6] ∧ 0 ≤ num ∧ (g = false → num < 10 ^ 18) ∧
    ds.length = min i 12 ∧ H' p = some (.lst (ds.map V.int)) ∧ Same H H') ⟨n0, [], none, none, by rw [← hg]; rfl, p0, hsmall, rfl, upd_same, same_new hp _⟩ (fun i σ H1 hi hI => ?_) (fun σ H1 hI => ?_)⟩
  · obtain ⟨num, ds, y5, y6, rfl, pn, sn, hl, hpp, hs⟩ := hI
    have room : (ds.map V.int).length < sizeLine := by
      rw [List.length_map, hl]
      exact small1000 (by omega)
    have grow : ∀ v : Int, i < 12 → (ds ++ [v]).length = min (i + 1) 12 := fun v h => by
      rw [List.length_append, hl, List.length_singleton]
      omega
    have put : ∀ v : Int, (upd H1 p (.lst (ds.map V.int ++ [.int v]))) p = some (.lst ((ds ++ [v]).map V.int)) := fun v => by
      rw [upd_same, List.map_append] <;> rfl
    refine ⟨_, rfl, _, rfl, _, _, rfl, rfl, _, rfl, ?_⟩
    refine ite2 (fun c1 => ?_) (fun c1 => ?_)
    · have c1' : (0 : Int) + (i : Nat) < 12 := of_decide_eq_true c1
      refine ⟨_, rfl, g, rfl, ?_⟩
      cases g with
      | true =>
        refine iteT ?_
        refine ⟨_, rfl, .inl ⟨rfl, _, SqL.of hpp⟩, _, rfl, _, _, rfl, rfl, (by show (0 : Int) < 60; decide), _, _, _, rfl, rfl, hpp, room, ?_⟩
        refine ⟨_, rfl, _, _, rfl, rfl, ⟨by decide, by decide⟩, ?_⟩
        exact ⟨num / 60, ds ++ [num % 60], _, _, rfl, Int.ediv_nonneg pn (by decide), fun z => Bool.noConfusion z, grow _ (by omega), put _, same_at hp hs _⟩
      | false =>
        have sn' := sn rfl
        refine iteF ?_
        refine ⟨_, rfl, _, rfl, _, _, rfl, rfl, _, rfl, iteT' (decide_eq_true c1') ?_⟩
        refine ⟨_, rfl, .inl ⟨_, rfl, _, _, rfl, rfl, .inr ⟨by decide, by decide⟩, _, rfl, _, _, rfl, rfl, .inr ⟨by decide, by decide⟩, _, _, rfl, rfl, _, _, rfl, rfl, _, _, rfl, rfl, (by show (0 : Int) < 2147483647; decide), ?_⟩⟩
        generalize hm : ((num * 48271 + (0 + (i : Nat)) * 69621 + 11) % 2147483647 : Int) = m1
        have b1 : 0 ≤ m1 := by rw [← hm]; exact Int.emod_nonneg _ (by decide)
        have b2 : m1 < 2147483647 := by rw [← hm]; exact Int.emod_lt_of_pos _ (by decide)
        refine ⟨_, rfl, .inl ⟨_, rfl, _, rfl, .inl ⟨_, rfl, _, _, rfl, rfl, .inl ⟨by omega, by omega⟩, _, rfl, _, _, rfl, rfl, .inr ⟨by decide, by decide⟩, _, _, rfl, rfl, _, _, rfl, rfl, _, _, rfl, rfl, (by show (0 : Int) < 998244353; decide), ?_⟩⟩⟩
        refine ⟨_, rfl, .inl ⟨rfl, _, SqL.of hpp⟩, _, rfl, .inl ⟨_, rfl, _, _, rfl, rfl, (by show (0 : Int) < 60; decide), _, _, _, rfl, rfl, hpp, room, ?_⟩⟩
        exact ⟨num, _, _, _, rfl, pn, sn, grow _ (by omega), put _, same_at hp hs _⟩
    · have c1' : ¬ (0 : Int) + (i : Nat) < 12 := fun z => c1 (decide_eq_true z)
      refine ⟨_, rfl, _, rfl, _, _, rfl, rfl, _, rfl, iteF' (decide_eq_false c1') ?_⟩
      exact ⟨num, ds, _, _, rfl, pn, sn, by rw [hl]; omega, hpp, hs⟩
  · obtain ⟨num, ds, y5, y6, rfl, pn, sn, hl, hpp, hs⟩ := hI
    exact ⟨_, rfl, q p ds H1 hs hp hl hpp⟩
theorem mod_place' {i : Int} {n : Nat} (h : 0 < n) : (i % (n : Int)).toNat < n ∧ (((i % (n : Int)).toNat : Nat) : Int) = i % (n : Int) := by
  have h1 : 0 ≤ i % (n : Int) := Int.emod_nonneg i (by omega)
  have h2 : i % (n : Int) < (n : Int) := Int.emod_lt_of_pos i (by omega)
  have h3 : (((i % (n : Int)).toNat : Nat) : Int) = i % (n : Int) := Int.toNat_of_nonneg h1
  refine ⟨?_, h3⟩
  omega
/-- a stream: its digits, its place -/
def Strm (H : Hp) (st : Addr) : Prop := ∃ (d p : Addr) (ds : List Int), H st = some (.lst [.ref d, .ref p]) ∧ H d = some (.lst (ds.map V.int)) ∧ 0 < ds.length ∧ H p = some (plO p)
theorem Strm.same {H H' : Hp} {st : Addr} (h : Strm H st) (s : Same H H') : Strm H' st := by
  obtain ⟨d, p, ds, h1, h2, h3, h4⟩ := h
  exact ⟨d, p, ds, s _ _ h1, s _ _ h2, h3, s _ _ h4⟩
def spStream0 (K : PySem.W.Frag) : Sp := fun vs H Q _ => ∃ (a : Addr) (ns : List Int) (first count : Int), vs = [.ref a, .int first, .int count] ∧ SqL K H a (ns.map V.int) ∧ 0 ≤ first ∧ 0 < count ∧ count ≤ 60 ∧
  ∀ (st d p : Addr) (ds : List Int) (H' : Hp), Same H H' → H st = none → H d = none → H p = none → st ≠ p → d ≠ p → H' st = some (.lst [.ref d, .ref p]) → H' d = some (.lst (ds.map V.int)) → 0 < ds.length → H' p = some (.lst [.int 0]) → Q (.ref st) H'
theorem d_stream0 (B : Bt mg) (D_law_cell : DefOk P w K mg base CX0 1 "_law_cell" ["script", "k"] (DP.spCell K)) (D_law_draws : DefOk P w K mg base CX0 1 "_law_draws" ["cell", "count"] spDraws)
    (A : At K mg "_law_stream" s__law_stream ["script", "first", "count"]) : DefOk P w K mg base CX0 2 "_law_stream" ["script", "first", "count"] (spStream0 K) := by
  refine A.ok sc__law_stream (fun vs H Q E h => ?_) (fun f cdv A outer s H vs Q E hr h => ?_)
  · obtain ⟨a, ns, first, count, rfl, _⟩ := h
    rfl
  obtain ⟨a, ns, first, count, rfl, hS, h0, h1, h2, q⟩ := h
  refine ⟨_, pss_cons (ps_set (i := 3) sc__law_stream.nd rfl (Or.inl rfl) (pe_lst pa_nil))
  (pss_cons (ps_for PassesOwn.never rfl (pi_range1 (by rfl) B.range (pa_cons (pv 2) pa_nil)) (pg_name (i := 4) sc__law_stream.nd rfl (Or.inl rfl))
      (pss_one (ps_expr (pe_bm PySem.F.plainAttrs_list PySem.F.slot_list_extend PySem.F.type_list_extend mt_extend (pv 3) (pa_cons (pe_f D_law_draws (hr.mono (by omega)) pass0 (pa_cons (pe_f D_law_cell (hr.mono (by omega)) pass0 (pa_cons (pv 0) (pa_cons (pe_op op_add (pv 1) (pv 4)) pa_nil))) (pa_cons pe_int pa_nil))) pa_nil)))))
  (pss_one (ps_ret (pe_lst (pa_cons (pv 3) (pa_cons (pe_lst (pa_cons pe_int pa_nil)) pa_nil))))))
    , ?_⟩
  refine ⟨Nat.zero_le _, fun p hp => ?_⟩
  refine ⟨_, rfl, count, rfl, by omega, by omega, for_range (n := count.toNat) (fun i σ H' => ∃ (ds : List Int) (y4 : Option V), σ = [some (.ref a), some (.int first), some (.int count), some (.ref p), y4] ∧ ds.length = 12 * i ∧ H' p = some (.lst (ds.map V.int)) ∧ Same H H')
    ⟨[], none, rfl, rfl, upd_same, same_new hp _⟩ (fun i σ H1 hi hI => ?_) (fun σ H1 hI => ?_)⟩
  · obtain ⟨ds, y4, rfl, hl, hpp, hs⟩ := hI
    refine ⟨_, rfl, .inl ⟨rfl, _, SqL.of hpp⟩, _, rfl, _, rfl, _, rfl, _, _, rfl, rfl, a, ns, first + (0 + (i : Int)), rfl, hs.seq hS, by omega, fun v => ?_⟩
    refine ⟨v, rfl, fun b es H2 s2 nb hl2 hb => ?_⟩
    refine ⟨p, b, _, _, rfl, rfl, s2 _ _ hpp, hb, ?_, ?_⟩
    · rw [List.length_map, List.length_map, hl, hl2]
      exact small (by omega)
    · refine ⟨ds ++ es, _, rfl, by rw [List.length_append, hl, hl2]; omega, by rw [upd_same, List.map_append], same_at hp (hs.trans s2) _⟩
  · obtain ⟨ds, y4, rfl, hl, hpp, hs⟩ := hI
    refine ⟨_, rfl, Nat.le_trans (by decide : 1 ≤ 1000) (Nat.le_of_lt (small1000 (Nat.le_refl _))), fun pl npl => ?_⟩
    have e1 : p ≠ pl := ne_of_none hpp npl
    refine ⟨Nat.le_trans (by decide : 2 ≤ 1000) (Nat.le_of_lt (small1000 (Nat.le_refl _))), fun st nst => ?_⟩
    have nst0 := nst
    have e2 : pl ≠ st := fun z => by
      rw [← z, upd_same] at nst
      cases nst
    rw [upd_ne e2.symm] at nst
    have e3 : p ≠ st := ne_of_none hpp nst
    refine q st p pl ds _ (same_at (hs.free nst) (same_at (hs.free npl) hs _) _) (hs.free nst) hp (hs.free npl) e2.symm e1 upd_same ?_ (by rw [hl]; omega) ?_
    · rw [upd_ne e3, upd_ne e1]
      exact hpp
    · rw [upd_ne e2, upd_same]
def spStream (K : PySem.W.Frag) : Sp := fun vs H Q _ => ∃ (a : Addr) (ns : List Int) (first count : Int), vs = [.ref a, .int first, .int count] ∧ SqL K H a (ns.map V.int) ∧ 0 ≤ first ∧ 0 < count ∧ count ≤ 60 ∧
  ∀ (st : Addr) (H' : Hp), Same H H' → H st = none → Strm H' st → Q (.ref st) H'
theorem d_stream (D : DefOk P w K mg base CX0 2 "_law_stream" ["script", "first", "count"] (spStream0 K)) : DefOk P w K mg base CX0 2 "_law_stream" ["script", "first", "count"] (spStream K) := by
  refine D.hide_out (fun vs H Q E h => ?_) (fun vs H Q E h => ?_)
  · obtain ⟨a, ns, first, count, rfl, _⟩ := h
    rfl
  obtain ⟨a, ns, first, count, rfl, hS, h0, h1, h2, q⟩ := h
  refine ⟨a, ns, first, count, rfl, hS, h0, h1, h2, fun st d p ds H' s nst nd np e1 e2 g1 g2 g3 g4 => ⟨p, 0, np, g4, q st _ (same_at np s _) nst ⟨d, p, ds, ?_, ?_, g3, upd_same⟩⟩⟩
  · rw [upd_ne e1]; exact g1
  · rw [upd_ne e2]; exact g2
def spNext0 : Sp := fun vs H Q _ => ∃ (st d p : Addr) (ds : List Int) (n many : Int), vs = [.ref st, .int many] ∧ 0 < many ∧ H st = some (.lst [.ref d, .ref p]) ∧ H d = some (.lst (ds.map V.int)) ∧ 0 < ds.length ∧ H p = some (.lst [.int n]) ∧
  ∀ v m : Int, 0 ≤ v → v < many → Q (.int v) (upd H p (.lst [.int m]))
theorem d_next0 (B : Bt mg) (A : At K mg "_law_next" s__law_next ["stream", "many"]) : DefOk P w K mg base CX0 1 "_law_next" ["stream", "many"] spNext0 := by
  refine A.ok sc__law_next (fun vs H Q E h => ?_) (fun f cdv A outer s H vs Q E hr h => ?_)
  · obtain ⟨a, d, p, ds, n, many, rfl, _⟩ := h
    rfl
  obtain ⟨st, d, p, ds, n, many, rfl, hm, h1, h2, h3, h4, q⟩ := h
  refine ⟨_, pss_cons (ps_set (i := 2) sc__law_next.nd rfl (Or.inl rfl) (pe_ix ix_list (pv 0) pe_int (fun _ _ => rfl)))
  (pss_cons (ps_set (i := 3) sc__law_next.nd rfl (Or.inl rfl) (pe_ix ix_list (pv 0) pe_int (fun _ _ => rfl)))
  (pss_cons (ps_set (i := 4) sc__law_next.nd rfl (Or.inl rfl) (pe_op op_mod (pe_callTy (call_int1) (by rfl) B.int (by decide +kernel) (pa_cons (pe_ix ix_list (pv 2) (pe_op op_mod (pe_callTy (call_int1) (by rfl) B.int (by decide +kernel) (pa_cons (pe_ix ix_list (pv 3) pe_int (fun _ _ => rfl)) pa_nil)) (pe_callB (call_len_seq) (by rfl) B.len (by decide +kernel) (pa_cons (pv 2) pa_nil))) (fun _ _ => rfl)) pa_nil)) (pv 1)))
  (pss_cons (ps_asg (pe_op op_add (pe_ix ix_list (pv 3) pe_int (fun _ _ => rfl)) pe_int) (pg_sub (pv 3) pe_int set_list))
  (pss_one (ps_ret (pv 4))))))
    , ?_⟩
  refine ⟨_, rfl, st, _, 0, .ref d, rfl, rfl, SqL.of h1, rfl, ?_⟩
  refine ⟨_, rfl, st, _, 1, .ref p, rfl, rfl, SqL.of h1, rfl, ?_⟩
  have hp := (mod_place' (i := n) h3)
  have g2 : atI (ds.map V.int) (n % (((ds.map V.int).length : Nat) : Int)) = some (.int ds[(n % (ds.length : Int)).toNat]) := by
    have g : (ds.map V.int)[(n % (ds.length : Int)).toNat]? = some (.int ds[(n % (ds.length : Int)).toNat]) := by rw [List.getElem?_map, List.getElem?_eq_getElem hp.1] <;> rfl
    have g3 := atI_nat g
    rw [hp.2] at g3
    rw [List.length_map]
    exact g3
  refine ⟨_, rfl, _, rfl, p, _, 0, .int n, rfl, rfl, SqL.of h4, rfl, .inl ⟨_, rfl, _, rfl, d, _, rfl, .inl (SqL.of h2), _, _, rfl, rfl, (by rw [List.length_map]; omega), ?_⟩⟩
  refine ⟨d, _, _, _, rfl, rfl, SqL.of h2, g2, .inl ⟨_, rfl, _, rfl, _, _, rfl, rfl, hm, ?_⟩⟩
  refine ⟨_, rfl, p, _, 0, .int n, rfl, rfl, SqL.of h4, rfl, _, _, rfl, rfl, _, rfl, p, _, 0, 0, rfl, rfl, h4, rfl, ?_⟩
  exact ⟨_, rfl, q _ _ (Int.emod_nonneg _ (by omega)) (Int.emod_lt_of_pos _ hm)⟩
/-- some int below many; nothing is seen to change -/
def spNext : Sp := fun vs H Q _ => ∃ (st : Addr) (many : Int), vs = [.ref st, .int many] ∧ 0 < many ∧ Strm H st ∧ ∀ v : Int, 0 ≤ v → v < many → Q (.int v) H
theorem d_next (D : DefOk P w K mg base CX0 1 "_law_next" ["stream", "many"] spNext0) : DefOk P w K mg base CX0 1 "_law_next" ["stream", "many"] spNext := by
  refine D.hide_in (fun vs H Q E h => ?_) (fun vs H Q E h => ?_)
  · obtain ⟨st, many, rfl, _⟩ := h
    rfl
  obtain ⟨st, many, rfl, hm, ⟨d, p, ds, h1, h2, h3, h4⟩, q⟩ := h
  have e1 : st ≠ p := ne_of h1 h4 (fun z => nomatch z)
  have e2 : d ≠ p := ne_of h2 h4 (fun z => nomatch z)
  exact ⟨p, h4, fun n => ⟨st, d, p, ds, n, many, rfl, hm, by rw [upd_ne e1]; exact h1, by rw [upd_ne e2]; exact h2, h3, upd_same, fun v m v0 v1 => ⟨⟨m, upd_upd⟩, q v v0 v1⟩⟩⟩
end
end DP
namespace DP
open PySem PySem.Spec PyProof.Rows L2
abbrev s__law_word : Stmt := topS 76
theorem sc__law_word : FnScope ["stream", "index", "letters", "size", "text", "place", "word", "k"] ["stream", "index"] (defScope s__law_word) := ⟨rfl, rfl, rfl, by decide +kernel, rfl, by decide +kernel, by decide +kernel⟩
def lo36 : Str := "abcdefghijklmnopqrstuvwxyz0123456789"
def isLo (c : Nat) : Bool := (decide (97 ≤ c) && decide (c ≤ 122)) || isD c
def isUp (c : Nat) : Bool := decide (65 ≤ c) && decide (c ≤ 90)
theorem isLo_notUp {c : Nat} (h : isLo c = true) : isUp c = false := by
  unfold isLo isD at h
  unfold isUp
  simp only [Bool.or_eq_true, Bool.and_eq_true, decide_eq_true_eq] at h
  simp only [Bool.and_eq_false_iff, decide_eq_false_iff_not]
  omega
theorem isLo_sign {c : Nat} (h : isLo c = true) : (isL c || isD c) = true := by
  unfold isLo at h
  unfold isL
  simp only [Bool.or_eq_true, Bool.and_eq_true, decide_eq_true_eq] at h ⊢
  rcases h with h | h
  · exact .inl (.inr h)
  · exact .inr h
/-- the word of the i-th thing: its one capital tells i -/
structure WordAt (i : Nat) (u : Str) : Prop where
  ok : NameOk u
  cap : (tl u).filter isUp = [65 + i]
theorem WordAt.inj {i j : Nat} {u : Str} (h : WordAt i u) (k : WordAt j u) : i = j := by
  have e := h.cap.symm.trans k.cap
  have := (List.cons.inj e).1
  omega
theorem cutS_mem {z : Str} {a b : Option Int} {c : Nat} (h : c ∈ tl (cutS z a b)) : c ∈ tl z := List.mem_of_mem_drop (List.mem_of_mem_take h)
theorem filter_none {l : List Nat} (h : ∀ c ∈ l, isLo c = true) : l.filter isUp = [] := List.filter_eq_nil_iff.mpr fun c hc => by rw [isLo_notUp (h c hc)]; exact Bool.false_ne_true
theorem lo36_at {v : Int} (h0 : 0 ≤ v) (h1 : v < 36) : ∃ c, atI lo36.cps.toList v = some c ∧ isLo c = true := by
  have all : ∀ j, j < 36 → ∃ c, lo36.cps.toList[j]? = some c ∧ isLo c = true := by
    intro j hj
    have hl : lo36.cps.toList.length = 36 := by decide +kernel
    refine ⟨lo36.cps.toList[j]'(by omega), List.getElem?_eq_getElem _, ?_⟩
    have al : ∀ c ∈ lo36.cps.toList, isLo c = true := by decide +kernel
    exact al _ (List.getElem_mem _)
  obtain ⟨c, h2, h3⟩ := all v.toNat (by omega)
  refine ⟨c, ?_, h3⟩
  have := atI_nat h2
  rw [show ((v.toNat : Nat) : Int) = v by omega] at this
  exact this
theorem cap_at {i : Nat} (h : i < 10) : atI ("ABCDEFGHIJ" : Str).cps.toList (i : Int) = some (65 + i) := by
  have all : ∀ j, j < 10 → ("ABCDEFGHIJ" : Str).cps.toList[j]? = some (65 + j) := by decide +kernel
  exact atI_nat (all i h)
theorem tl_str1 {c : Nat} : tl (⟨#[c]⟩ : Str) = [c] := rfl
theorem tl_app (x y : Str) : tl (x ++ y) = tl x ++ tl y := TL.tl_append x y
theorem join_ones : ∀ cs : List Nat, tl (Txt.join (Str.ofString "") (cs.map fun c => (⟨#[c]⟩ : Str))) = cs := fun cs => by
  rw [TL.join_eq]
  show TL.tl (Str.join (Str.ofString "") (cs.map fun c => (⟨#[c]⟩ : Str))) = cs
  rw [TL.tl_join, List.map_map]
  have e : TL.tl (Str.ofString "") = [] := by decide +kernel
  rw [e]
  induction cs with
  | nil => rfl
  | cons a r ih =>
    cases r with
    | nil => rfl
    | cons b t =>
      show [a] ++ ([] ++ TL.joinL [] ((b :: t).map _)) = a :: b :: t
      rw [List.nil_append, ih]
      rfl
/-- the word's parts put together -/
theorem word_ok {i : Nat} {pre suf : Str} {z : Str} (hi : i < 10) (hp : ∀ c ∈ tl pre, isLo c = true) (hs : ∀ c ∈ tl suf, isLo c = true) (lp : (tl pre).length ≤ 4) (ls : (tl suf).length ≤ 4) (hz : tl z = tl pre ++ (65 + i) :: tl suf) :
    (∃ c r, tl z = c :: r ∧ (isD c = true ∨ isL c = true)) ∧ (∀ c r, tl z = c :: r → isD c = true → WordAt i ((Str.ofString "v" : Str) ++ z)) ∧ (∀ c r, tl z = c :: r → isD c = false → WordAt i z) := by
  have sg : ∀ c ∈ tl z, (isL c || isD c) = true := fun c hc => by
    rw [hz] at hc
    rcases List.mem_append.mp hc with hc | hc
    · exact isLo_sign (hp c hc)
    · rcases List.mem_cons.mp hc with rfl | hc
      · unfold isL
        simp only [Bool.or_eq_true, Bool.and_eq_true, decide_eq_true_eq]
        omega
      · exact isLo_sign (hs c hc)
  have cp : (tl z).filter isUp = [65 + i] := by
    rw [hz, List.filter_append, filter_none hp, List.nil_append, List.filter_cons, filter_none hs, if_pos]
    unfold isUp
    simp only [Bool.and_eq_true, decide_eq_true_eq]
    omega
  have ln : (tl z).length ≤ 9 := by
    rw [hz, List.length_append, List.length_cons]
    omega
  have ev : tl (Str.ofString "v") = [118] := by decide +kernel
  refine ⟨?_, fun c r e hd => ⟨⟨118, c :: r, by rw [tl_app, ev, e]; rfl, by decide, fun x hx => sg x (by rw [e]; exact hx), by rw [← e]; omega⟩, ?_⟩, fun c r e hd => ⟨⟨c, r, e, ?_, fun x hx => sg x (by rw [e]; exact List.mem_cons_of_mem _ hx), ?_⟩, cp⟩⟩
  · cases q : tl z with
    | nil =>
      rw [hz] at q
      exact absurd q (by simp)
    | cons c r =>
      refine ⟨c, r, rfl, ?_⟩
      have := sg c (by rw [q]; exact List.mem_cons_self)
      rcases Bool.or_eq_true _ _ ▸ this with h | h
      · exact .inr h
      · exact .inl h
  · rw [tl_app, ev, List.filter_append, cp]
    rfl
  · have := sg c (by rw [e]; exact List.mem_cons_self)
    rw [hd, Bool.or_false] at this
    exact this
  · have := congrArg List.length e
    rw [List.length_cons] at this
    omega
section
variable {P : Program} {w : World} {K : PySem.W.Frag} {mg : Str → Option Value} {base : Heap}
def spWord : Sp := fun vs H Q _ => ∃ (st : Addr) (i : Nat), vs = [.ref st, .int (i : Int)] ∧ i < 10 ∧ Strm H st ∧ ∀ u H', Same H H' → WordAt i u → Q (.str u) H'
theorem d_word (B : Bt mg) (D_law_next : DefOk P w K mg base CX0 1 "_law_next" ["stream", "many"] spNext) (A : At K mg "_law_word" s__law_word ["stream", "index"]) : DefOk P w K mg base CX0 2 "_law_word" ["stream", "index"] spWord := by
  refine A.ok sc__law_word (fun vs H Q E h => ?_) (fun f cdv A outer s H vs Q E hr h => ?_)
  · obtain ⟨st, i, rfl, _⟩ := h
    rfl
  obtain ⟨st, i, rfl, hi, hst, q⟩ := h
  refine ⟨_, pss_cons (ps_set (i := 2) sc__law_word.nd rfl (Or.inr rfl) pe_str)
  (pss_cons (ps_set (i := 3) sc__law_word.nd rfl (Or.inl rfl) (pe_f D_law_next (hr.mono (by omega)) pass0 (pa_cons (pv 0) (pa_cons pe_int pa_nil))))
  (pss_cons (ps_set (i := 4) sc__law_word.nd rfl (Or.inl rfl) (pe_join pe_str (pe_lc (own := [("k", 7)])  rfl sc__law_word.nd (pi_range1 (by rfl) B.range (pa_cons (pv 3) pa_nil)) (blkOk_by (own := [("k", 7)]) (N := ["stream", "index", "letters", "size", "text", "place", "word", "k"]) (sc := defScope s__law_word) (by decide +kernel)) (fun _ _ _ _ _ => pg_name (i := 7) sc__law_word.nd rfl (Or.inl rfl)) (fun _ _ _ _ _ => pts_nil) (fun _ _ _ _ _ => (pe_ix ix_str (pv 2) (pe_f D_law_next (hr.mono (by omega)) pass0 (pa_cons (pv 0) (pa_cons pe_int pa_nil))) (fun _ _ => rfl))))))
  (pss_cons (ps_set (i := 5) sc__law_word.nd rfl (Or.inl rfl) (pe_f D_law_next (hr.mono (by omega)) pass0 (pa_cons (pv 0) (pa_cons (pe_op op_add (pv 3) pe_int) pa_nil))))
  (pss_cons (ps_set (i := 6) sc__law_word.nd rfl (Or.inl rfl) (pe_op op_add_str (pe_op op_add_str (pe_slice sl_str (pv 4) po_none (po_some (pv 5))) (pe_ix ix_str pe_str (pv 1) (fun _ _ => rfl))) (pe_slice sl_str (pv 4) (po_some (pv 5)) po_none)))
  (pss_cons (ps_if (pt_cmpR op_in_sign (pe_ix ix_str (pv 6) pe_int (fun _ _ => rfl)) (pe_slice sl_str (pv 2) (po_some pe_int) po_none) (by rfl))
      (pss_one (ps_set (i := 6) sc__law_word.nd rfl (Or.inl rfl) (pe_op op_add_str pe_str (pv 6))))
      (pss_nil))
  (pss_one (ps_ret (pv 6))))))))
    , ?_⟩
  refine ⟨_, rfl, st, 5, rfl, by decide, hst, fun sz s0 s1 => ?_⟩
  refine ⟨⟨_, rfl⟩, _, rfl, sz, rfl, by omega, by omega, fun D hD => ?_⟩
  refine lc_range (lo := 0) (n := sz.toNat) (fun k H' => ∃ cs : List Nat, cs.length = k ∧ (∀ c ∈ cs, isLo c = true) ∧ H' D = some (.lst ((cs.map fun c => (⟨#[c]⟩ : Str)).map V.str)) ∧ Same H H') ⟨[], rfl, fun _ z => absurd z List.not_mem_nil, upd_same, same_new hD _⟩ (fun k H1 hk hI => ?_) (fun H1 hI => ?_)
  · obtain ⟨cs, hc, hlo, hDD, hs⟩ := hI
    refine ⟨rfl, _, rfl, _, rfl, st, 36, rfl, by decide, hst.same hs, fun v v0 v1 => ?_⟩
    obtain ⟨c, hc1, hc2⟩ := lo36_at v0 v1
    refine ⟨_, _, c, rfl, rfl, by decide +kernel, hc1, _, hDD, by rw [List.length_map, List.length_map, hc]; exact small1000 (by omega), cs ++ [c], by rw [List.length_append, hc, List.length_singleton], ?_, by rw [upd_same, List.map_append, List.map_append]; rfl, same_at hD hs _⟩
    intro x hx
    rcases List.mem_append.mp hx with hx | hx
    · exact hlo x hx
    · rw [List.mem_singleton.mp hx]; exact hc2
  · obtain ⟨cs, hc, hlo, hDD, hs⟩ := hI
    have hl4 : cs.length ≤ 4 := by omega
    refine ⟨Str.ofString "", D, cs.map fun c => (⟨#[c]⟩ : Str), rfl, rfl, .inl (SqL.of hDD), ?_, ?_⟩
    · have e : ((cs.map fun c => (⟨#[c]⟩ : Str)).map (·.length)).sum = cs.length := by
        rw [List.map_map]
        clear hDD hc hl4 hlo
        induction cs with
        | nil => rfl
        | cons a r ih =>
          rw [List.map_cons, List.sum_cons, ih, List.length_cons]
          show 1 + r.length = _
          omega
      have e2 : (Str.ofString "" : Str).length = 0 := by decide +kernel
      rw [e, e2, Nat.mul_zero]
      omega
    obtain ⟨tx, htx⟩ : ∃ tx, Txt.join (Str.ofString "") (cs.map fun c => (⟨#[c]⟩ : Str)) = tx := ⟨_, rfl⟩
    have etx : tl tx = cs := by rw [← htx]; exact join_ones cs
    rw [htx]
    have hst1 := hst.same hs
    have ltx : tx.length ≤ 4 := by
      rw [TL.len_tl, show TL.tl tx = tl tx from rfl, etx]
      exact hl4
    refine ⟨_, rfl, _, rfl, _, _, rfl, rfl, st, sz + 1, rfl, by omega, hst1, fun pl p0 p1 => ?_⟩
    have lpre := cutS_length tx none (some pl)
    have lsuf := cutS_length tx (some pl) none
    have lcap : (⟨#[65 + i]⟩ : Str).length = 1 := rfl
    have lapp : (cutS tx none (some pl) ++ (⟨#[65 + i]⟩ : Str)).length = (cutS tx none (some pl)).length + 1 := by
      rw [TL.len_tl, TL.tl_append, List.length_append, ← TL.len_tl, ← TL.len_tl, lcap]
    refine ⟨_, rfl, _, rfl, pl, rfl, tx, rfl, Nat.le_trans ltx (by decide), _, rfl, _, _, 65 + i, rfl, rfl, by decide +kernel, cap_at hi, _, _, rfl, rfl, ?_, ?_⟩
    · rw [lcap]; exact Nat.le_trans (Nat.add_le_add_right (Nat.le_trans lpre ltx) 1) (by decide)
    refine ⟨_, rfl, _, rfl, pl, rfl, tx, rfl, Nat.le_trans ltx (by decide), _, _, rfl, rfl, ?_, ?_⟩
    · rw [lapp]
      exact Nat.le_trans (Nat.add_le_add (Nat.add_le_add_right (Nat.le_trans lpre ltx) 1) (Nat.le_trans lsuf ltx)) (by decide)
    obtain ⟨z, hz⟩ : ∃ z, cutS tx none (some pl) ++ (⟨#[65 + i]⟩ : Str) ++ cutS tx (some pl) none = z := ⟨_, rfl⟩
    have ez : tl z = tl (cutS tx none (some pl)) ++ (65 + i) :: tl (cutS tx (some pl) none) := by
      rw [← hz, tl_app, tl_app, tl_str1, List.append_assoc]
      rfl
    have hpre : ∀ c ∈ tl (cutS tx none (some pl)), isLo c = true := fun c hc' => hlo c (by rw [← etx]; exact cutS_mem hc')
    have hsuf : ∀ c ∈ tl (cutS tx (some pl) none), isLo c = true := fun c hc' => hlo c (by rw [← etx]; exact cutS_mem hc')
    obtain ⟨⟨c, r, ec, hcd⟩, w1, w2⟩ := word_ok hi hpre hsuf (by rw [show (tl (cutS tx none (some pl))).length = (cutS tx none (some pl)).length from (TL.len_tl _).symm]; omega) (by rw [show (tl (cutS tx (some pl) none)).length = (cutS tx (some pl) none).length from (TL.len_tl _).symm]; omega) ez
    have lz : z.length ≤ 9 := by
      rw [← hz, TL.len_tl, TL.tl_append, List.length_append, ← TL.len_tl, ← TL.len_tl, lapp]
      omega
    have hat : atI z.cps.toList 0 = some c := by
      show atI (tl z) 0 = some c
      rw [ec]
      exact atI_nat (j := 0) rfl
    rw [hz]
    have e26 : cutS lo36 (some 26) none = ("0123456789" : Str) := by decide +kernel
    refine ⟨_, rfl, _, _, c, rfl, rfl, Nat.le_trans lz (by decide), hat, _, rfl, 26, rfl, lo36, rfl, by decide +kernel, c, _, rfl, rfl, _, rfl, ite2 (fun k => ?_) (fun k => ?_)⟩
    · have hk : c ∈ (cutS lo36 (some 26) none).cps.toList := of_decide_eq_true k
      rw [e26] at hk
      have hd : isD c = true := by
        have al : ∀ x ∈ ("0123456789" : Str).cps.toList, isD x = true := by decide +kernel
        exact al c hk
      have ev : (Str.ofString "v" : Str).length = 1 := by decide +kernel
      refine ⟨_, rfl, _, _, rfl, rfl, by rw [ev]; exact Nat.le_trans (Nat.add_le_add_left lz 1) (by decide), ?_⟩
      exact ⟨_, rfl, q _ H1 hs (w1 c r ec hd)⟩
    · have hk : ¬ c ∈ (cutS lo36 (some 26) none).cps.toList := fun z => k (decide_eq_true z)
      rw [e26] at hk
      have hd : isD c = false := by
        cases e : isD c with
        | false => rfl
        | true => exact absurd (dig_in (isD_lt e)) hk
      exact ⟨_, rfl, q _ H1 hs (w2 c r ec hd)⟩
end
end DP
namespace DP
open PySem PySem.Spec PyProof.Rows L2
abbrev s__law_satellite : Stmt := topS 77
theorem sc__law_satellite : FnScope ["stream", "index", "horizon", "store", "battery", "level", "reserve", "light", "least", "k", "first", "end", "numbers"] ["stream", "index", "horizon"] (defScope s__law_satellite) := ⟨rfl, rfl, rfl, by decide +kernel, rfl, by decide +kernel, by decide +kernel⟩
abbrev s__law_recording : Stmt := topS 78
theorem sc__law_recording : FnScope ["stream", "index", "satellites", "horizon", "earliest", "latest", "length", "deadline", "numbers", "urgency"] ["stream", "index", "satellites", "horizon"] (defScope s__law_recording) := ⟨rfl, rfl, rfl, by decide +kernel, rfl, by decide +kernel, by decide +kernel⟩
abbrev s__law_pass : Stmt := topS 79
theorem sc__law_pass : FnScope ["stream", "index", "satellites", "stations", "horizon", "first", "end", "numbers"] ["stream", "index", "satellites", "stations", "horizon"] (defScope s__law_pass) := ⟨rfl, rfl, rfl, by decide +kernel, rfl, by decide +kernel, by decide +kernel⟩
abbrev s__law_world : Stmt := topS 80
theorem sc__law_world : FnScope ["script", "stream", "horizon", "satellites", "stations", "recordings", "passes", "world", "k"] ["script"] (defScope s__law_world) := ⟨rfl, rfl, rfl, by decide +kernel, rfl, by decide +kernel, by decide +kernel⟩
def spanPy (q : Int × Int) : PyData := .tuple [.int q.1, .int q.2]
def satPy (s : SatD) : PyData := .tuple [.str s.name, .tuple [.int s.store, .int s.battery, .int s.level, .int s.reserve, .int s.charge, .int s.settle], .tuple (s.light.map spanPy)]
def staPy (s : StaD) : PyData := .tuple [.str s.name, .int s.antennas, .int s.turn]
def recPy (r : RecD) : PyData := .tuple [.str r.name, .int (r.sat : Int), .tuple [.int r.earliest, .int r.latest, .int r.length, .int r.size, .int r.energy], .tuple [.int r.worth, .int r.rank, .int r.deadline]]
def pasPy (p : PasD) : PyData := .tuple [.str p.name, .int (p.sat : Int), .int (p.sta : Int), .tuple [.int p.first, .int p.fin], .tuple [.int p.room, .int p.energy, .int p.fee]]
mutual
theorem dp_map {K : PySem.W.Frag} {H H' : Hp} (fT : ∀ b xs, SqT K H b xs → SqT K H' b xs) (fL : ∀ b xs, SqL K H b xs → SqL K H' b xs) : ∀ {v : V} {d : PyData}, Dp K H v d → Dp K H' v d
  | _, _, .non => .non
  | _, _, .bl b => .bl b
  | _, _, .int i => .int i
  | _, _, .str x => .str x
  | _, _, .lst h t => .lst (fL _ _ h) (dpAll_map fT fL t)
  | _, _, .tup h t => .tup (fT _ _ h) (dpAll_map fT fL t)
theorem dpAll_map {K : PySem.W.Frag} {H H' : Hp} (fT : ∀ b xs, SqT K H b xs → SqT K H' b xs) (fL : ∀ b xs, SqL K H b xs → SqL K H' b xs) : ∀ {xs : List V} {ds : List PyData}, DpAll K H xs ds → DpAll K H' xs ds
  | _, _, .nil => .nil
  | _, _, .cons a t => .cons (dp_map fT fL a) (dpAll_map fT fL t)
end
theorem dp_same {K : PySem.W.Frag} {H H' : Hp} (s : Same H H') {v : V} {d : PyData} (h : Dp K H v d) : Dp K H' v d := dp_map (fun _ _ => Same.tup s) (fun _ _ => s.seq) h
theorem dpAll_same {K : PySem.W.Frag} {H H' : Hp} (s : Same H H') {xs : List V} {ds : List PyData} (h : DpAll K H xs ds) : DpAll K H' xs ds := dpAll_map (fun _ _ => Same.tup s) (fun _ _ => s.seq) h
mutual
def noL : PyData → Prop
  | .list _ => False
  | .tuple ds => noLs ds
  | _ => True
def noLs : List PyData → Prop
  | [] => True
  | d :: ds => noL d ∧ noLs ds
end
mutual
theorem dpT_map {K : PySem.W.Frag} {H H' : Hp} (fT : ∀ b xs, SqT K H b xs → SqT K H' b xs) : ∀ {v : V} {d : PyData}, noL d → Dp K H v d → Dp K H' v d
  | _, _, _, .non => .non
  | _, _, _, .bl b => .bl b
  | _, _, _, .int i => .int i
  | _, _, _, .str x => .str x
  | _, _, n, .lst h t => False.elim (by unfold noL at n; exact n)
  | _, _, n, .tup h t => .tup (fT _ _ h) (dpTs_map fT (by unfold noL at n; exact n) t)
theorem dpTs_map {K : PySem.W.Frag} {H H' : Hp} (fT : ∀ b xs, SqT K H b xs → SqT K H' b xs) : ∀ {xs : List V} {ds : List PyData}, noLs ds → DpAll K H xs ds → DpAll K H' xs ds
  | _, _, _, .nil => .nil
  | _, _, n, .cons a t => .cons (dpT_map fT (by unfold noLs at n; exact n.1) a) (dpTs_map fT (by unfold noLs at n; exact n.2) t)
end
theorem noLs_map {α : Type} {f : α → PyData} (h : ∀ a, noL (f a)) : ∀ l : List α, noLs (l.map f)
  | [] => by show noLs []; unfold noLs; trivial
  | a :: r => by show noLs (f a :: r.map f); unfold noLs; exact ⟨h a, noLs_map h r⟩
theorem noL_span (q : Int × Int) : noL (spanPy q) := by unfold spanPy; simp [noL, noLs]
theorem noL_sat (s : SatD) : noL (satPy s) := by
  unfold satPy
  have := noLs_map noL_span s.light
  simp [noL, noLs, this]
theorem noL_sta (s : StaD) : noL (staPy s) := by unfold staPy; simp [noL, noLs]
theorem noL_rec (s : RecD) : noL (recPy s) := by unfold recPy; simp [noL, noLs]
theorem noL_pas (s : PasD) : noL (pasPy s) := by unfold pasPy; simp [noL, noLs]
theorem dpAll_snoc {K : PySem.W.Frag} {H : Hp} : ∀ {xs : List V} {ds : List PyData} {x : V} {d : PyData}, DpAll K H xs ds → Dp K H x d → DpAll K H (xs ++ [x]) (ds ++ [d])
  | _, _, _, _, .nil, h => .cons h .nil
  | _, _, _, _, .cons a t, h => .cons a (dpAll_snoc t h)
/-- tuples stay where a list is changed -/
theorem dpTs_up {K : PySem.W.Frag} {H : Hp} {L : Addr} {ys xs : List V} {ds : List PyData} {o : HO} (n : noLs ds) (e : H L = some (.lst ys)) (h : DpAll K H xs ds) : DpAll K (upd H L o) xs ds := dpTs_map (fun _ _ z => sqT_upd z e) n h
theorem dpT_up {K : PySem.W.Frag} {H : Hp} {L : Addr} {ys : List V} {v : V} {d : PyData} {o : HO} (n : noL d) (e : H L = some (.lst ys)) (h : Dp K H v d) : Dp K (upd H L o) v d := dpT_map (fun _ _ z => sqT_upd z e) n h
theorem spans_dp {K : PySem.W.Frag} {H : Hp} {xs : List V} {qs : List (Int × Int)} (h : Spans K H xs qs) : DpAll K H xs (qs.map spanPy) := by
  induction h with
  | nil => exact .nil
  | cons a _ ih =>
    obtain ⟨t, rfl, ht⟩ := a
    exact .cons (.tup ht (.cons (.int _) (.cons (.int _) .nil))) ih
/-- the end of the last span -/
def lastE : Int → List (Int × Int) → Int
  | a, [] => a
  | _, q :: r => lastE q.2 r
theorem LightOk.snoc {h : Int} {q : Int × Int} : ∀ {l : List (Int × Int)} {a : Int}, LightOk a h l → lastE a l ≤ q.1 → q.1 + 1 ≤ q.2 → q.2 ≤ h → LightOk a h (l ++ [q])
  | [], a, _, h1, h2, h3 => ⟨h1, h2, h3, trivial⟩
  | p :: r, a, ⟨g1, g2, g3, g4⟩, h1, h2, h3 => ⟨g1, g2, g3, g4.snoc h1 h2 h3⟩
theorem lastE_snoc {q : Int × Int} : ∀ (l : List (Int × Int)) (a : Int), lastE a (l ++ [q]) = q.2
  | [], _ => rfl
  | p :: r, _ => lastE_snoc r p.2
section
variable {P : Program} {w : World} {K : PySem.W.Frag} {mg : Str → Option Value} {base : Heap}
theorem sz2 : 2 ≤ sizeLine := by decide
theorem sz3 : 3 ≤ sizeLine := by decide
theorem sz4 : 4 ≤ sizeLine := by decide
theorem sz5 : 5 ≤ sizeLine := by decide
theorem sz6 : 6 ≤ sizeLine := by decide
def spGSat (K : PySem.W.Frag) : Sp := fun vs H Q _ => ∃ (st : Addr) (i : Nat) (h : Int), vs = [.ref st, .int (i : Int), .int h] ∧ i < 10 ∧ 1 ≤ h ∧ h ≤ 80 ∧ Strm H st ∧ ∀ x s H', Same H H' → SatOk h s → WordAt i s.name → Dp K H' x (satPy s) → s.level ≤ 1000 → Q x H'
theorem d_gsat (B : Bt mg) (D_law_next : DefOk P w K mg base CX0 1 "_law_next" ["stream", "many"] spNext) (D_law_word : DefOk P w K mg base CX0 2 "_law_word" ["stream", "index"] spWord)
    (A : At K mg "_law_satellite" s__law_satellite ["stream", "index", "horizon"]) : DefOk P w K mg base CX0 3 "_law_satellite" ["stream", "index", "horizon"] (spGSat K) := by
  refine A.ok sc__law_satellite (fun vs H Q E h => ?_) (fun f cdv A outer s H vs Q E hr h => ?_)
  · obtain ⟨st, i, h, rfl, _⟩ := h
    rfl
  obtain ⟨st, i, h, rfl, hi, h1, h80, hst, q⟩ := h
  refine ⟨_, pss_cons (ps_set (i := 3) sc__law_satellite.nd rfl (Or.inl rfl) (pe_f D_law_next (hr.mono (by omega)) pass0 (pa_cons (pv 0) (pa_cons pe_int pa_nil))))
  (pss_cons (ps_set (i := 4) sc__law_satellite.nd rfl (Or.inl rfl) (pe_op op_add pe_int (pe_f D_law_next (hr.mono (by omega)) pass0 (pa_cons (pv 0) (pa_cons pe_int pa_nil)))))
  (pss_cons (ps_set (i := 5) sc__law_satellite.nd rfl (Or.inl rfl) (pe_op op_mod (pe_f D_law_next (hr.mono (by omega)) pass0 (pa_cons (pv 0) (pa_cons pe_int pa_nil))) (pe_op op_add (pv 4) pe_int)))
  (pss_cons (ps_set (i := 6) sc__law_satellite.nd rfl (Or.inl rfl) (pe_op op_mod (pe_f D_law_next (hr.mono (by omega)) pass0 (pa_cons (pv 0) (pa_cons pe_int pa_nil))) (pe_op op_add (pe_op op_fdiv (pv 5) pe_int) pe_int)))
  (pss_cons (ps_set (i := 7) sc__law_satellite.nd rfl (Or.inl rfl) (pe_lst pa_nil))
  (pss_cons (ps_set (i := 8) sc__law_satellite.nd rfl (Or.inl rfl) pe_int)
  (pss_cons (ps_for PassesOwn.never rfl (pi_range1 (by rfl) B.range (pa_cons (pe_f D_law_next (hr.mono (by omega)) pass0 (pa_cons (pv 0) (pa_cons pe_int pa_nil))) pa_nil)) (pg_name (i := 9) sc__law_satellite.nd rfl (Or.inl rfl))
      (pss_cons (ps_set (i := 10) sc__law_satellite.nd rfl (Or.inl rfl) (pe_op op_add (pv 8) (pe_f D_law_next (hr.mono (by omega)) pass0 (pa_cons (pv 0) (pa_cons pe_int pa_nil)))))
      (pss_cons (ps_set (i := 11) sc__law_satellite.nd rfl (Or.inl rfl) (pe_op op_add (pe_op op_add (pv 10) pe_int) (pe_f D_law_next (hr.mono (by omega)) pass0 (pa_cons (pv 0) (pa_cons pe_int pa_nil)))))
      (pss_one (ps_if (pt_cmpR op_le (pv 11) (pv 2) (nomark _))
          (pss_cons (ps_expr (pe_bm PySem.F.plainAttrs_list PySem.F.slot_list_append PySem.F.type_list_append mt_append (pv 7) (pa_cons (pe_tup (pa_cons (pv 10) (pa_cons (pv 11) pa_nil))) pa_nil)))
          (pss_one (ps_set (i := 8) sc__law_satellite.nd rfl (Or.inl rfl) (pv 11))))
          (pss_nil))))))
  (pss_cons (ps_set (i := 12) sc__law_satellite.nd rfl (Or.inl rfl) (pe_tup (pa_cons (pv 3) (pa_cons (pv 4) (pa_cons (pv 5) (pa_cons (pv 6) (pa_cons (pe_f D_law_next (hr.mono (by omega)) pass0 (pa_cons (pv 0) (pa_cons pe_int pa_nil))) (pa_cons (pe_f D_law_next (hr.mono (by omega)) pass0 (pa_cons (pv 0) (pa_cons pe_int pa_nil))) pa_nil))))))))
  (pss_one (ps_ret (pe_tup (pa_cons (pe_f D_law_word (hr.mono (by omega)) pass0 (pa_cons (pv 0) (pa_cons (pv 1) pa_nil))) (pa_cons (pv 12) (pa_cons (pe_callTy (call_tuple_of) (by rfl) B.tuple (by decide +kernel) (pa_cons (pv 7) pa_nil)) pa_nil)))))))))))))
    , ?_⟩
  refine ⟨_, rfl, st, 30, rfl, by decide, hst, fun so so0 so1 => ?_⟩
  refine ⟨_, rfl, st, 60, rfl, by decide, hst, fun ba ba0 ba1 => ⟨_, _, rfl, rfl, ?_⟩⟩
  refine ⟨_, rfl, st, 60, rfl, by decide, hst, fun le le0 le1 => ⟨_, rfl, _, _, rfl, rfl, _, _, rfl, rfl, (by show 0 < 10 + ba + 1; omega), ?_⟩⟩
  have lv0 : 0 ≤ le % (10 + ba + 1) := Int.emod_nonneg _ (by omega)
  have lv1 : le % (10 + ba + 1) < 10 + ba + 1 := Int.emod_lt_of_pos _ (by omega)
  obtain ⟨lev, elev⟩ : ∃ z, le % (10 + ba + 1) = z := ⟨_, rfl⟩
  rw [elev] at lv0 lv1
  refine ⟨_, rfl, st, 60, rfl, by decide, hst, fun re re0 re1 => ⟨_, rfl, _, _, rfl, rfl, ⟨by decide, by decide⟩, _, _, rfl, rfl, _, _, rfl, rfl, (by show 0 < le % (10 + ba + 1) / 3 + 1; omega), ?_⟩⟩
  have rv0 : 0 ≤ re % (le % (10 + ba + 1) / 3 + 1) := Int.emod_nonneg _ (by omega)
  have rv1 : re % (le % (10 + ba + 1) / 3 + 1) < le % (10 + ba + 1) / 3 + 1 := Int.emod_lt_of_pos _ (by omega)
  refine ⟨Nat.zero_le _, fun L hL => ?_⟩
  have hst1 := hst.same (same_new hL (.lst []))
  refine ⟨_, rfl, st, 4, rfl, by decide, hst1, fun kn kn0 kn1 => ?_⟩
  refine ⟨kn, rfl, by omega, by omega, for_range (n := kn.toNat) (fun j σ H' => ∃ (ls : List V) (qs : List (Int × Int)) (le' : Int) (y9 y10 y11 : Option V), σ = [some (.ref st), some (.int (i : Int)), some (.int h), some (.int so), some (.int (10 + ba)), some (.int (le % (10 + ba + 1))), some (.int (re % (le % (10 + ba + 1) / 3 + 1))), some (.ref L), some (.int le'), y9, y10, y11, none] ∧
    0 ≤ le' ∧ le' = lastE 0 qs ∧ qs.length ≤ j ∧ LightOk 0 h qs ∧ H' L = some (.lst ls) ∧ Spans K H' ls qs ∧ Same H H') ⟨[], [], 0, none, none, none, rfl, Int.le_refl 0, rfl, Nat.le_refl _, trivial, upd_same, .nil, same_new hL _⟩ (fun j σ H1 hj hI => ?_) (fun σ H1 hI => ?_)⟩
  · obtain ⟨ls, qs, le', y9, y10, y11, rfl, hl0, hll, hql, hok, hLL, hsp, hs⟩ := hI
    have hstj := hst.same hs
    refine ⟨_, rfl, _, rfl, st, 12, rfl, by decide, hstj, fun u u0 u1 => ⟨_, _, rfl, rfl, ?_⟩⟩
    refine ⟨_, rfl, _, _, rfl, rfl, _, rfl, st, 15, rfl, by decide, hstj, fun v v0 v1 => ⟨_, _, rfl, rfl, ?_⟩⟩
    refine ⟨_, rfl, _, rfl, _, _, rfl, rfl, _, rfl, ite2 (fun c => ?_) (fun c => ?_)⟩
    · have c' : le' + u + 1 + v ≤ h := of_decide_eq_true c
      refine ⟨_, rfl, .inl ⟨rfl, _, SqL.of hLL⟩, _, rfl, _, rfl, sz2, fun t ht => ?_⟩
      have eLt : L ≠ t := ne_of_none hLL ht
      have hLt : (upd H1 t (.tup [.int (le' + u), .int (le' + u + 1 + v)])) L = some (.lst ls) := by rw [upd_ne eLt]; exact hLL
      refine ⟨L, ls, .ref t, rfl, rfl, hLt, by rw [paired_len hsp]; exact small1000 (by omega), ?_⟩
      refine ⟨_, rfl, ls ++ [.ref t], qs ++ [(le' + u, le' + u + 1 + v)], _, _, _, _, rfl, by omega, by rw [lastE_snoc], by rw [List.length_append, List.length_singleton]; omega, ?_, upd_same, ?_, same_at hL (hs.trans (same_new ht _)) _⟩
      · exact hok.snoc (by rw [← hll]; show le' ≤ le' + u; omega) (by show le' + u + 1 ≤ le' + u + 1 + v; omega) c'
      · exact Spans.upd (paired_snoc (hsp.same (same_new ht _)) ⟨t, rfl, SqT.of upd_same⟩) hLt
    · exact ⟨ls, qs, le', _, _, _, rfl, hl0, hll, by omega, hok, hLL, hsp, hs⟩
  · obtain ⟨ls, qs, le', y9, y10, y11, rfl, hl0, hll, hql, hok, hLL, hsp, hs⟩ := hI
    have hstj := hst.same hs
    refine ⟨_, rfl, _, rfl, _, rfl, _, rfl, _, rfl, st, 5, rfl, by decide, hstj, fun ch ch0 ch1 => ⟨_, rfl, st, 4, rfl, by decide, hstj, fun se se0 se1 => ⟨sz6, fun t ht => ?_⟩⟩⟩
    have sA := same_new ht (.tup [.int so, .int (10 + ba), .int (le % (10 + ba + 1)), .int (re % (le % (10 + ba + 1) / 3 + 1)), .int ch, .int se])
    refine ⟨_, rfl, _, rfl, st, i, rfl, hi, hstj.same sA, fun u H2 s2 hu => ?_⟩
    have hL2 := s2 _ _ (sA _ _ hLL)
    refine ⟨_, rfl, _, rfl, L, ls, rfl, .inl ⟨SqL.of hL2, fun t2 ht2 => ⟨sz3, fun r hr' => ?_⟩⟩⟩
    have sB := same_new ht2 (.tup ls)
    have sC := same_new hr' (.tup [.str u, .ref t, .ref t2])
    have sAll := s2.trans (sB.trans sC)
    refine q (.ref r) ⟨u, so, 10 + ba, le % (10 + ba + 1), re % (le % (10 + ba + 1) / 3 + 1), ch, se, qs⟩ _ (hs.trans (sA.trans sAll)) ⟨hu.ok, by show 0 ≤ so ∧ so ≤ 1000000; omega, by show 0 ≤ 10 + ba ∧ 10 + ba ≤ 1000000; omega, by show 0 ≤ le % (10 + ba + 1) ∧ le % (10 + ba + 1) ≤ 10 + ba; omega, by show 0 ≤ re % (le % (10 + ba + 1) / 3 + 1) ∧ re % (le % (10 + ba + 1) / 3 + 1) ≤ le % (10 + ba + 1); omega, by show 0 ≤ ch ∧ ch ≤ 1000; omega, by show 0 ≤ se ∧ se ≤ 60; omega, hok⟩ hu ?_ (by show le % (10 + ba + 1) ≤ 1000; rw [elev]; omega)
    refine .tup (SqT.of upd_same) (.cons (.str _) (.cons (.tup (SqT.of (sAll _ _ upd_same)) (.cons (.int _) (.cons (.int _) (.cons (.int _) (.cons (.int _) (.cons (.int _) (.cons (.int _) .nil))))))) (.cons (.tup (SqT.of (sC _ _ upd_same)) ?_) .nil)))
    exact spans_dp ((hsp.same sA).same sAll)
def spGRec (K : PySem.W.Frag) : Sp := fun vs H Q _ => ∃ (st : Addr) (i n : Nat) (h : Int), vs = [.ref st, .int (i : Int), .int (n : Int), .int h] ∧ i < 10 ∧ 0 < n ∧ 1 ≤ h ∧ h ≤ 80 ∧ Strm H st ∧
  ∀ x r H', Same H H' → (∀ W : WorldD, W.sats.length = n → W.horizon = h → RecOk W r) → WordAt i r.name → Dp K H' x (recPy r) → Q x H'
theorem at5 {v : Int} (h0 : 0 ≤ v) (h1 : v < 5) : ∃ m : Int, atI ([V.int 0, V.int 0, V.int 1, V.int 2, V.int 5] : List V) v = some (.int m) ∧ 0 ≤ m ∧ m ≤ 5 := by
  have all : ∀ j, j < 5 → ∃ m : Int, ([0, 0, 1, 2, 5] : List Int)[j]? = some m ∧ 0 ≤ m ∧ m ≤ 5 := fun j hj => by
    refine ⟨([0, 0, 1, 2, 5] : List Int)[j], List.getElem?_eq_getElem _, ?_⟩
    have al : ∀ c ∈ ([0, 0, 1, 2, 5] : List Int), 0 ≤ c ∧ c ≤ 5 := by decide
    exact al _ (List.getElem_mem _)
  obtain ⟨m, e, b⟩ := all v.toNat (by omega)
  have := atI_nat (xs := ([0, 0, 1, 2, 5] : List Int).map V.int) (j := v.toNat) (v := .int m) (by rw [List.getElem?_map, e]; rfl)
  rw [show ((v.toNat : Nat) : Int) = v by omega] at this
  exact ⟨m, this, b⟩
theorem at3 {v : Int} (h0 : 0 ≤ v) (h1 : v < 3) : ∃ m : Int, atI ([V.int 60, V.int 40, V.int 30] : List V) v = some (.int m) ∧ 0 ≤ m ∧ m ≤ 60 := by
  have all : ∀ j, j < 3 → ∃ m : Int, ([60, 40, 30] : List Int)[j]? = some m ∧ 0 ≤ m ∧ m ≤ 60 := fun j hj => by
    refine ⟨([60, 40, 30] : List Int)[j], List.getElem?_eq_getElem _, ?_⟩
    have al : ∀ c ∈ ([60, 40, 30] : List Int), 0 ≤ c ∧ c ≤ 60 := by decide
    exact al _ (List.getElem_mem _)
  obtain ⟨m, e, b⟩ := all v.toNat (by omega)
  have := atI_nat (xs := ([60, 40, 30] : List Int).map V.int) (j := v.toNat) (v := .int m) (by rw [List.getElem?_map, e]; rfl)
  rw [show ((v.toNat : Nat) : Int) = v by omega] at this
  exact ⟨m, this, b⟩
theorem min_at {i j n : Int} : ∃ m, (if j < i then j else i) = m ∧ m ≤ i ∧ m ≤ j ∧ (m = i ∨ m = j) := by
  refine ⟨_, rfl, ?_⟩
  split <;> omega
theorem d_grec (B : Bt mg) (D_law_next : DefOk P w K mg base CX0 1 "_law_next" ["stream", "many"] spNext) (D_law_word : DefOk P w K mg base CX0 2 "_law_word" ["stream", "index"] spWord)
    (A : At K mg "_law_recording" s__law_recording ["stream", "index", "satellites", "horizon"]) : DefOk P w K mg base CX0 3 "_law_recording" ["stream", "index", "satellites", "horizon"] (spGRec K) := by
  refine A.ok sc__law_recording (fun vs H Q E h => ?_) (fun f cdv A outer s H vs Q E hr h => ?_)
  · obtain ⟨st, i, n, h, rfl, _⟩ := h
    rfl
  obtain ⟨st, i, n, h, rfl, hi, hn, h1, h80, hst, q⟩ := h
  refine ⟨_, pss_cons (ps_set (i := 4) sc__law_recording.nd rfl (Or.inl rfl) (pe_op op_mod (pe_f D_law_next (hr.mono (by omega)) pass0 (pa_cons (pv 0) (pa_cons pe_int pa_nil))) (pv 3)))
  (pss_cons (ps_set (i := 5) sc__law_recording.nd rfl (Or.inl rfl) (pe_callB (call_min2 rfl) (by rfl) B.min (by decide +kernel) (pa_cons (pe_op op_add (pv 4) (pe_ix ix_list (pe_lst (pa_cons pe_int (pa_cons pe_int (pa_cons pe_int (pa_cons pe_int (pa_cons pe_int pa_nil)))))) (pe_f D_law_next (hr.mono (by omega)) pass0 (pa_cons (pv 0) (pa_cons pe_int pa_nil))) (fun _ _ => rfl))) (pa_cons (pe_op op_sub (pv 3) pe_int) pa_nil))))
  (pss_cons (ps_set (i := 6) sc__law_recording.nd rfl (Or.inl rfl) (pe_op op_add pe_int (pe_op op_mod (pe_f D_law_next (hr.mono (by omega)) pass0 (pa_cons (pv 0) (pa_cons pe_int pa_nil))) (pe_op op_sub (pv 3) (pv 5)))))
  (pss_cons (ps_set (i := 7) sc__law_recording.nd rfl (Or.inl rfl) (pe_callB (call_min2 rfl) (by rfl) B.min (by decide +kernel) (pa_cons (pv 3) (pa_cons (pe_op op_add (pe_ix ix_list (pe_lst (pa_cons pe_int (pa_cons pe_int (pa_cons pe_int pa_nil)))) (pe_f D_law_next (hr.mono (by omega)) pass0 (pa_cons (pv 0) (pa_cons pe_int pa_nil))) (fun _ _ => rfl)) (pe_f D_law_next (hr.mono (by omega)) pass0 (pa_cons (pv 0) (pa_cons pe_int pa_nil)))) pa_nil))))
  (pss_cons (ps_set (i := 8) sc__law_recording.nd rfl (Or.inl rfl) (pe_tup (pa_cons (pv 4) (pa_cons (pv 5) (pa_cons (pv 6) (pa_cons (pe_f D_law_next (hr.mono (by omega)) pass0 (pa_cons (pv 0) (pa_cons pe_int pa_nil))) (pa_cons (pe_f D_law_next (hr.mono (by omega)) pass0 (pa_cons (pv 0) (pa_cons pe_int pa_nil))) pa_nil)))))))
  (pss_cons (ps_set (i := 9) sc__law_recording.nd rfl (Or.inl rfl) (pe_tup (pa_cons (pe_op op_add pe_int (pe_f D_law_next (hr.mono (by omega)) pass0 (pa_cons (pv 0) (pa_cons pe_int pa_nil)))) (pa_cons (pe_op op_add pe_int (pe_f D_law_next (hr.mono (by omega)) pass0 (pa_cons (pv 0) (pa_cons pe_int pa_nil)))) (pa_cons (pv 7) pa_nil)))))
  (pss_one (ps_ret (pe_tup (pa_cons (pe_f D_law_word (hr.mono (by omega)) pass0 (pa_cons (pv 0) (pa_cons (pv 1) pa_nil))) (pa_cons (pe_f D_law_next (hr.mono (by omega)) pass0 (pa_cons (pv 0) (pa_cons (pv 2) pa_nil))) (pa_cons (pv 8) (pa_cons (pv 9) pa_nil))))))))))))
    , ?_⟩
  refine ⟨_, rfl, st, 30, rfl, by decide, hst, fun ea ea0 ea1 => ⟨_, rfl, _, _, rfl, rfl, (by show 0 < h; omega), ?_⟩⟩
  have e0 : 0 ≤ ea % h := Int.emod_nonneg _ (by omega)
  have e1 : ea % h < h := Int.emod_lt_of_pos _ (by omega)
  refine ⟨_, rfl, sz5, fun pm hpm => ?_⟩
  have s1 := same_new hpm (.lst [.int 0, .int 0, .int 1, .int 2, .int 5])
  have hst1 := hst.same s1
  refine ⟨_, rfl, st, 5, rfl, by decide, hst1, fun v v0 v1 => ?_⟩
  obtain ⟨m, hm, m0, m5⟩ := at5 v0 v1
  refine ⟨pm, _, _, _, rfl, rfl, SqL.of upd_same, hm, _, _, rfl, rfl, _, rfl, _, _, rfl, rfl, _, _, rfl, ?_⟩
  obtain ⟨la, ela, la1, la2, la3⟩ := min_at (i := ea % h + m) (j := h - 1) (n := 0)
  have ela' : (if h - 1 < ea % h + m then h - 1 else ea % h + m) = la := ela
  refine ⟨_, rfl, st, 8, rfl, by decide, hst1, fun le le0 le1 => ⟨_, rfl, _, rfl, _, _, rfl, rfl, _, _, rfl, rfl, ?_, _, _, rfl, rfl, ?_⟩⟩
  · show 0 < h - (if h - 1 < ea % h + m then h - 1 else ea % h + m)
    rw [ela']
    omega
  have l0 : 0 ≤ le % (h - la) := Int.emod_nonneg _ (by omega)
  have l1 : le % (h - la) < h - la := Int.emod_lt_of_pos _ (by omega)
  refine ⟨_, rfl, sz3, fun pd hpd => ?_⟩
  have s2 := same_new hpd (.lst [.int 60, .int 40, .int 30])
  have hst2 := hst1.same s2
  refine ⟨_, rfl, st, 3, rfl, by decide, hst2, fun d d0 d1 => ?_⟩
  obtain ⟨dm, hdm, dm0, dm1⟩ := at3 d0 d1
  refine ⟨pd, _, _, _, rfl, rfl, SqL.of upd_same, hdm, _, rfl, st, 20, rfl, by decide, hst2, fun dd dd0 dd1 => ⟨_, _, rfl, rfl, _, _, rfl, ?_⟩⟩
  obtain ⟨de, ede, de1, de2, de3⟩ := min_at (i := h) (j := dm + dd) (n := 0)
  have ede' : (if dm + dd < h then dm + dd else h) = de := ede
  refine ⟨_, rfl, _, rfl, _, rfl, _, rfl, st, 16, rfl, by decide, hst2, fun si si0 si1 => ⟨_, rfl, st, 16, rfl, by decide, hst2, fun en en0 en1 => ⟨sz5, fun t1 ht1 => ?_⟩⟩⟩
  have hst3 := hst2.same (same_new ht1 (.tup [.int (ea % h), .int (if h - 1 < ea % h + m then h - 1 else ea % h + m), .int (1 + le % (h - if h - 1 < ea % h + m then h - 1 else ea % h + m)), .int si, .int en]))
  refine ⟨_, rfl, st, 30, rfl, by decide, hst3, fun wo wo0 wo1 => ⟨_, _, rfl, rfl, _, rfl, st, 3, rfl, by decide, hst3, fun ra ra0 ra1 => ⟨_, _, rfl, rfl, _, rfl, sz3, fun t2 ht2 => ?_⟩⟩⟩
  have s4 := same_new ht2 (.tup [.int (1 + wo), .int (1 + ra), .int (if dm + dd < h then dm + dd else h)])
  have hst4 := hst3.same s4
  refine ⟨_, rfl, _, rfl, st, i, rfl, hi, hst4, fun u H5 s5 hu => ⟨_, rfl, _, rfl, st, n, rfl, by omega, hst4.same s5, fun sa sa0 sa1 => ⟨_, rfl, _, rfl, sz4, fun r hr' => ?_⟩⟩⟩
  have s6 := same_new hr' (.tup [.str u, .int sa, .ref t1, .ref t2])
  have s3 := same_new ht1 (.tup [.int (ea % h), .int (if h - 1 < ea % h + m then h - 1 else ea % h + m), .int (1 + le % (h - if h - 1 < ea % h + m then h - 1 else ea % h + m)), .int si, .int en])
  refine q (.ref r) ⟨u, sa.toNat, ea % h, la, 1 + le % (h - la), si, en, 1 + wo, 1 + ra, de⟩ _ (s1.trans (s2.trans (s3.trans (s4.trans (s5.trans s6))))) (fun W wn wh => ?_) hu ?_
  · subst wh
    exact ⟨hu.ok, by show sa.toNat < W.sats.length; omega, by show 0 ≤ ea % W.horizon ∧ ea % W.horizon ≤ W.horizon - 1; omega, by show ea % W.horizon ≤ la ∧ la ≤ ea % W.horizon + 20 ∧ la ≤ W.horizon - 1; omega, by show 1 ≤ 1 + le % (W.horizon - la) ∧ 1 + le % (W.horizon - la) ≤ W.horizon - la; omega,
      by show 0 ≤ si ∧ si ≤ 1000000; omega, by show 0 ≤ en ∧ en ≤ 1000000; omega, by show 1 ≤ 1 + wo ∧ 1 + wo ≤ 1000; omega, by show 1 ≤ 1 + ra ∧ 1 + ra ≤ 3; omega, by show 0 ≤ de ∧ de ≤ W.horizon; omega⟩
  · have g1 := s6 _ _ (s5 _ _ (s4 _ _ (upd_same (H := upd (upd H pm (.lst [.int 0, .int 0, .int 1, .int 2, .int 5])) pd (.lst [.int 60, .int 40, .int 30])) (a := t1) (o := .tup [.int (ea % h), .int (if h - 1 < ea % h + m then h - 1 else ea % h + m), .int (1 + le % (h - if h - 1 < ea % h + m then h - 1 else ea % h + m)), .int si, .int en]))))
    have g2 := s6 _ _ (s5 _ _ (upd_same (H := upd (upd (upd H pm (.lst [.int 0, .int 0, .int 1, .int 2, .int 5])) pd (.lst [.int 60, .int 40, .int 30])) t1 (.tup [.int (ea % h), .int (if h - 1 < ea % h + m then h - 1 else ea % h + m), .int (1 + le % (h - if h - 1 < ea % h + m then h - 1 else ea % h + m)), .int si, .int en])) (a := t2) (o := .tup [.int (1 + wo), .int (1 + ra), .int (if dm + dd < h then dm + dd else h)])))
    rw [ela'] at g1
    rw [ede'] at g2
    have es : ((sa.toNat : Nat) : Int) = sa := by omega
    refine .tup (SqT.of upd_same) (.cons (.str _) (.cons ?_ (.cons (.tup (SqT.of g1) (.cons (.int _) (.cons (.int _) (.cons (.int _) (.cons (.int _) (.cons (.int _) .nil)))))) (.cons (.tup (SqT.of g2) (.cons (.int _) (.cons (.int _) (.cons (.int _) .nil)))) .nil))))
    rw [es]
    exact .int _
end
end DP
namespace DP
open PySem PySem.Spec PyProof.Rows L2
section
variable {P : Program} {w : World} {K : PySem.W.Frag} {mg : Str → Option Value} {base : Heap}
def spGPas (K : PySem.W.Frag) : Sp := fun vs H Q _ => ∃ (st : Addr) (i n m : Nat) (h : Int), vs = [.ref st, .int (i : Int), .int (n : Int), .int (m : Int), .int h] ∧ i < 10 ∧ 0 < n ∧ 0 < m ∧ 1 ≤ h ∧ h ≤ 80 ∧ Strm H st ∧
  ∀ x r H', Same H H' → (∀ W : WorldD, W.sats.length = n → W.stas.length = m → W.horizon = h → PasOk W r) → WordAt i r.name → Dp K H' x (pasPy r) → Q x H'
theorem d_gpas (B : Bt mg) (D_law_next : DefOk P w K mg base CX0 1 "_law_next" ["stream", "many"] spNext) (D_law_word : DefOk P w K mg base CX0 2 "_law_word" ["stream", "index"] spWord)
    (A : At K mg "_law_pass" s__law_pass ["stream", "index", "satellites", "stations", "horizon"]) : DefOk P w K mg base CX0 3 "_law_pass" ["stream", "index", "satellites", "stations", "horizon"] (spGPas K) := by
  refine A.ok sc__law_pass (fun vs H Q E h => ?_) (fun f cdv A outer s H vs Q E hr h => ?_)
  · obtain ⟨st, i, n, m, h, rfl, _⟩ := h
    rfl
  obtain ⟨st, i, n, m, h, rfl, hi, hn, hm, h1, h80, hst, q⟩ := h
  refine ⟨_, pss_cons (ps_set (i := 5) sc__law_pass.nd rfl (Or.inl rfl) (pe_op op_mod (pe_op op_add pe_int (pe_f D_law_next (hr.mono (by omega)) pass0 (pa_cons (pv 0) (pa_cons pe_int pa_nil)))) (pv 4)))
  (pss_cons (ps_set (i := 6) sc__law_pass.nd rfl (Or.inl rfl) (pe_callB (call_min2 rfl) (by rfl) B.min (by decide +kernel) (pa_cons (pv 4) (pa_cons (pe_op op_add (pe_op op_add (pv 5) pe_int) (pe_f D_law_next (hr.mono (by omega)) pass0 (pa_cons (pv 0) (pa_cons pe_int pa_nil)))) pa_nil))))
  (pss_cons (ps_set (i := 7) sc__law_pass.nd rfl (Or.inl rfl) (pe_tup (pa_cons (pe_f D_law_next (hr.mono (by omega)) pass0 (pa_cons (pv 0) (pa_cons pe_int pa_nil))) (pa_cons (pe_f D_law_next (hr.mono (by omega)) pass0 (pa_cons (pv 0) (pa_cons pe_int pa_nil))) (pa_cons (pe_f D_law_next (hr.mono (by omega)) pass0 (pa_cons (pv 0) (pa_cons pe_int pa_nil))) pa_nil)))))
  (pss_one (ps_ret (pe_tup (pa_cons (pe_f D_law_word (hr.mono (by omega)) pass0 (pa_cons (pv 0) (pa_cons (pv 1) pa_nil))) (pa_cons (pe_f D_law_next (hr.mono (by omega)) pass0 (pa_cons (pv 0) (pa_cons (pv 2) pa_nil))) (pa_cons (pe_f D_law_next (hr.mono (by omega)) pass0 (pa_cons (pv 0) (pa_cons (pv 3) pa_nil))) (pa_cons (pe_tup (pa_cons (pv 5) (pa_cons (pv 6) pa_nil))) (pa_cons (pv 7) pa_nil))))))))))
    , ?_⟩
  refine ⟨_, rfl, st, 45, rfl, by decide, hst, fun fi fi0 fi1 => ⟨_, _, rfl, rfl, _, rfl, _, _, rfl, rfl, (by show 0 < h; omega), ?_⟩⟩
  have e0 : 0 ≤ (10 + fi) % h := Int.emod_nonneg _ (by omega)
  have e1 : (10 + fi) % h < h := Int.emod_lt_of_pos _ (by omega)
  refine ⟨_, rfl, _, rfl, _, _, rfl, rfl, _, rfl, st, 12, rfl, by decide, hst, fun u u0 u1 => ⟨_, _, rfl, rfl, _, _, rfl, ?_⟩⟩
  obtain ⟨en, een, en1, en2, en3⟩ := min_at (i := h) (j := (10 + fi) % h + 1 + u) (n := 0)
  have een' : (if (10 + fi) % h + 1 + u < h then (10 + fi) % h + 1 + u else h) = en := een
  refine ⟨_, rfl, st, 30, rfl, by decide, hst, fun ro ro0 ro1 => ⟨_, rfl, st, 12, rfl, by decide, hst, fun eg eg0 eg1 => ⟨_, rfl, st, 6, rfl, by decide, hst, fun fe fe0 fe1 => ⟨sz3, fun t1 ht1 => ?_⟩⟩⟩⟩
  have s1 := same_new ht1 (.tup [.int ro, .int eg, .int fe])
  have hst1 := hst.same s1
  refine ⟨_, rfl, _, rfl, st, i, rfl, hi, hst1, fun nm H2 s2 hu => ⟨_, rfl, _, rfl, st, n, rfl, by omega, hst1.same s2, fun sa sa0 sa1 => ⟨_, rfl, _, rfl, st, m, rfl, by omega, hst1.same s2, fun ta ta0 ta1 => ?_⟩⟩⟩
  refine ⟨_, rfl, _, rfl, sz2, fun t2 ht2 => ⟨_, rfl, sz5, fun r hr' => ?_⟩⟩
  have s3 := same_new ht2 (.tup [.int ((10 + fi) % h), .int (if (10 + fi) % h + 1 + u < h then (10 + fi) % h + 1 + u else h)])
  have s4 := same_new hr' (.tup [.str nm, .int sa, .int ta, .ref t2, .ref t1])
  refine q (.ref r) ⟨nm, sa.toNat, ta.toNat, (10 + fi) % h, en, ro, eg, fe⟩ _ (s1.trans (s2.trans (s3.trans s4))) (fun W wn wm wh => ?_) hu ?_
  · subst wh
    exact ⟨hu.ok, by show sa.toNat < W.sats.length; omega, by show ta.toNat < W.stas.length; omega, by show 0 ≤ (10 + fi) % W.horizon ∧ (10 + fi) % W.horizon ≤ W.horizon - 1; omega, by show (10 + fi) % W.horizon + 1 ≤ en ∧ en ≤ W.horizon; omega,
      by show 0 ≤ ro ∧ ro ≤ 1000000; omega, by show 0 ≤ eg ∧ eg ≤ 1000000; omega, by show 0 ≤ fe ∧ fe ≤ 1000; omega⟩
  · have g1 := s4 _ _ (s3 _ _ (s2 _ _ (upd_same (H := H) (a := t1) (o := .tup [.int ro, .int eg, .int fe]))))
    have g2 := s4 _ _ (upd_same (H := H2) (a := t2) (o := .tup [.int ((10 + fi) % h), .int (if (10 + fi) % h + 1 + u < h then (10 + fi) % h + 1 + u else h)]))
    have es : ((sa.toNat : Nat) : Int) = sa := by omega
    have et : ((ta.toNat : Nat) : Int) = ta := by omega
    refine .tup (SqT.of upd_same) (.cons (.str _) (.cons ?_ (.cons ?_ (.cons (.tup (SqT.of (g2.trans (by rw [een']))) (.cons (.int _) (.cons (.int _) .nil))) (.cons (.tup (SqT.of g1) (.cons (.int _) (.cons (.int _) (.cons (.int _) .nil)))) .nil)))))
    · rw [es]; exact .int _
    · rw [et]; exact .int _
def wdK (h : Int) (a b c d : Addr) : List (Key × V) := [(.inr "horizon", .int h), (.inr "satellites", .ref a), (.inr "stations", .ref b), (.inr "recordings", .ref c), (.inr "passes", .ref d)]
theorem kd_ne {a b : Str} (h : (a == b) = false) : decide ((Sum.inr a : Key) = Sum.inr b) = false := decide_eq_false fun z => by
  have := Sum.inr.inj z
  rw [this, beq_self_eq_true] at h
  cases h
theorem put_any_no {kvs : List (Key × V)} {k : Key} {v : V} (h : kvs.any (fun kv => decide (kv.1 = k)) = false) : putK kvs k v = kvs ++ [(k, v)] := by
  unfold putK
  rw [if_neg (by rw [h]; exact Bool.false_ne_true)]
theorem any_miss {g k : Str} {x : V} {r : List (Key × V)} (h : (g == k) = false) (t : r.any (fun kv => decide (kv.1 = (Sum.inr k : Key))) = false) : ((Sum.inr g, x) :: r : List (Key × V)).any (fun kv => decide (kv.1 = (Sum.inr k : Key))) = false := by
  rw [List.any_cons, kd_ne h, t]
  rfl
theorem wd_merge (h : Int) (a b c d : Addr) : mergeK [] (wdK h a b c d) = wdK h a b c d := by
  have e1 : putK ([] : List (Key × V)) (.inr "horizon") (.int h) = [(.inr "horizon", .int h)] := put_any_no rfl
  have e2 : putK ([(.inr "horizon", .int h)] : List (Key × V)) (.inr "satellites") (.ref a) = [(.inr "horizon", .int h), (.inr "satellites", .ref a)] := put_any_no (any_miss (by decide +kernel) rfl)
  have e3 : putK ([(.inr "horizon", .int h), (.inr "satellites", .ref a)] : List (Key × V)) (.inr "stations") (.ref b) = [(.inr "horizon", .int h), (.inr "satellites", .ref a), (.inr "stations", .ref b)] :=
    put_any_no (any_miss (by decide +kernel) (any_miss (by decide +kernel) rfl))
  have e4 : putK ([(.inr "horizon", .int h), (.inr "satellites", .ref a), (.inr "stations", .ref b)] : List (Key × V)) (.inr "recordings") (.ref c) = [(.inr "horizon", .int h), (.inr "satellites", .ref a), (.inr "stations", .ref b), (.inr "recordings", .ref c)] :=
    put_any_no (any_miss (by decide +kernel) (any_miss (by decide +kernel) (any_miss (by decide +kernel) rfl)))
  have e5 : putK ([(.inr "horizon", .int h), (.inr "satellites", .ref a), (.inr "stations", .ref b), (.inr "recordings", .ref c)] : List (Key × V)) (.inr "passes") (.ref d) = wdK h a b c d :=
    put_any_no (any_miss (by decide +kernel) (any_miss (by decide +kernel) (any_miss (by decide +kernel) (any_miss (by decide +kernel) rfl))))
  unfold mergeK
  show putK (κ := Key) (putK (κ := Key) (putK (κ := Key) (putK (κ := Key) (putK (κ := Key) [] (.inr "horizon") (.int h)) (.inr "satellites") (.ref a)) (.inr "stations") (.ref b)) (.inr "recordings") (.ref c)) (.inr "passes") (.ref d) = _
  rw [e1, e2, e3, e4, e5]
theorem putK_hit {k : Str} {x v : V} {r : List (Key × V)} (hr : ∀ p ∈ r, p.1 ≠ (Sum.inr k : Key)) : putK ((Sum.inr k, x) :: r) (Sum.inr k) v = (Sum.inr k, v) :: r := by
  unfold putK
  rw [if_pos (by rw [List.any_cons, decide_eq_true rfl]; rfl), List.map_cons, if_pos rfl]
  congr 1
  exact (List.map_congr_left fun p hp => if_neg (hr p hp)).trans (List.map_id _)
theorem putK_miss {g k : Str} {x v : V} {r : List (Key × V)} (h : (g == k) = false) (hit : r.any (fun kv => decide (kv.1 = (Sum.inr k : Key))) = true) : putK ((Sum.inr g, x) :: r) (Sum.inr k) v = (Sum.inr g, x) :: putK r (Sum.inr k) v := by
  have hn : ¬ ((Sum.inr g : Key) = Sum.inr k) := fun z => by
    have := Sum.inr.inj z
    rw [this, beq_self_eq_true] at h
    cases h
  unfold putK
  rw [if_pos (by rw [List.any_cons, hit, Bool.or_true]), if_pos hit, List.map_cons, if_neg hn]
theorem any_hit {k : Str} {x : V} {r : List (Key × V)} : ((Sum.inr k, x) :: r : List (Key × V)).any (fun kv => decide (kv.1 = (Sum.inr k : Key))) = true := by
  rw [List.any_cons, decide_eq_true rfl]
  rfl
theorem any_later {g k : Str} {x : V} {r : List (Key × V)} (t : r.any (fun kv => decide (kv.1 = (Sum.inr k : Key))) = true) : ((Sum.inr g, x) :: r : List (Key × V)).any (fun kv => decide (kv.1 = (Sum.inr k : Key))) = true := by
  rw [List.any_cons, t, Bool.or_true]
theorem key_ne {a b : Str} (h : (a == b) = false) : (Sum.inr a : Key) ≠ Sum.inr b := fun z => by
  have := Sum.inr.inj z
  rw [this, beq_self_eq_true] at h
  cases h
theorem nin_nil {k : Str} : ∀ p ∈ ([] : List (Key × V)), p.1 ≠ (Sum.inr k : Key) := fun _ h => absurd h List.not_mem_nil
theorem nin_cons {g k : Str} {x : V} {r : List (Key × V)} (h : (g == k) = false) (t : ∀ p ∈ r, p.1 ≠ (Sum.inr k : Key)) : ∀ p ∈ ((Sum.inr g, x) :: r : List (Key × V)), p.1 ≠ (Sum.inr k : Key) := fun p hp => by
  rcases List.mem_cons.mp hp with rfl | hp
  · exact key_ne h
  · exact t p hp
theorem wd_putS (h : Int) (a b c d z : Addr) : putK (wdK h a b c d) (.inr "satellites") (.ref z) = wdK h z b c d := by
  unfold wdK
  rw [putK_miss (by decide +kernel) any_hit, putK_hit (nin_cons (by decide +kernel) (nin_cons (by decide +kernel) (nin_cons (by decide +kernel) nin_nil)))]
theorem wd_putT (h : Int) (a b c d z : Addr) : putK (wdK h a b c d) (.inr "stations") (.ref z) = wdK h a z c d := by
  unfold wdK
  rw [putK_miss (by decide +kernel) (any_later any_hit), putK_miss (by decide +kernel) any_hit, putK_hit (nin_cons (by decide +kernel) (nin_cons (by decide +kernel) nin_nil))]
theorem wd_putR (h : Int) (a b c d z : Addr) : putK (wdK h a b c d) (.inr "recordings") (.ref z) = wdK h a b z d := by
  unfold wdK
  rw [putK_miss (by decide +kernel) (any_later (any_later any_hit)), putK_miss (by decide +kernel) (any_later any_hit), putK_miss (by decide +kernel) any_hit, putK_hit (nin_cons (by decide +kernel) nin_nil)]
theorem wd_putP (h : Int) (a b c d z : Addr) : putK (wdK h a b c d) (.inr "passes") (.ref z) = wdK h a b c z := by
  unfold wdK
  rw [putK_miss (by decide +kernel) (any_later (any_later (any_later any_hit))), putK_miss (by decide +kernel) (any_later (any_later any_hit)), putK_miss (by decide +kernel) (any_later any_hit), putK_miss (by decide +kernel) any_hit, putK_hit nin_nil]
theorem valV_hit {k : Str} {x : V} {r : List (Key × V)} : valV ((Sum.inr k, x) :: r) (Sum.inr k : Key) = some x := valV_pos rfl
theorem valV_miss {g k : Str} {x : V} {r : List (Key × V)} (h : (g == k) = false) : valV ((Sum.inr g, x) :: r) (Sum.inr k : Key) = valV r (Sum.inr k : Key) := by
  unfold valV
  rw [List.find?_cons, kd_ne h]
theorem wd_h (h : Int) (a b c d : Addr) : valV (wdK h a b c d) (.inr "horizon") = some (.int h) := by unfold wdK; exact valV_hit
theorem wd_s (h : Int) (a b c d : Addr) : valV (wdK h a b c d) (.inr "satellites") = some (.ref a) := by unfold wdK; exact (valV_miss (by decide +kernel)).trans valV_hit
theorem wd_t (h : Int) (a b c d : Addr) : valV (wdK h a b c d) (.inr "stations") = some (.ref b) := by unfold wdK; exact (valV_miss (by decide +kernel)).trans ((valV_miss (by decide +kernel)).trans valV_hit)
theorem wd_r (h : Int) (a b c d : Addr) : valV (wdK h a b c d) (.inr "recordings") = some (.ref c) := by unfold wdK; exact (valV_miss (by decide +kernel)).trans ((valV_miss (by decide +kernel)).trans ((valV_miss (by decide +kernel)).trans valV_hit))
theorem wd_p (h : Int) (a b c d : Addr) : valV (wdK h a b c d) (.inr "passes") = some (.ref d) := by
  unfold wdK; exact (valV_miss (by decide +kernel)).trans ((valV_miss (by decide +kernel)).trans ((valV_miss (by decide +kernel)).trans ((valV_miss (by decide +kernel)).trans valV_hit)))
/-- the law's dict of a world -/
structure WdAt (K : PySem.W.Frag) (H : Hp) (wd : Addr) (W : WorldD) : Prop where
  ex : ∃ a b c d xa xb xc xd, H wd = some (.dK (wdK W.horizon a b c d)) ∧ H a = some (.lst xa) ∧ DpAll K H xa (W.sats.map satPy) ∧ H b = some (.lst xb) ∧ DpAll K H xb (W.stas.map staPy) ∧ H c = some (.lst xc) ∧ DpAll K H xc (W.recs.map recPy) ∧ H d = some (.lst xd) ∧ DpAll K H xd (W.pass.map pasPy)
theorem WdAt.same {H H' : Hp} {wd : Addr} {W : WorldD} (h : WdAt K H wd W) (s : Same H H') : WdAt K H' wd W := by
  obtain ⟨a, b, c, d, xa, xb, xc, xd, g, a1, a2, b1, b2, c1, c2, d1, d2⟩ := h.ex
  exact ⟨a, b, c, d, xa, xb, xc, xd, s _ _ g, s _ _ a1, dpAll_same s a2, s _ _ b1, dpAll_same s b2, s _ _ c1, dpAll_same s c2, s _ _ d1, dpAll_same s d2⟩
theorem sqT_updK {H : Hp} {t L : Addr} {xs : List V} {kvs : List (Key × V)} {o : HO} (h : SqT K H t xs) (e : H L = some (.dK kvs)) : SqT K (upd H L o) t xs := by
  rcases h with (h | ⟨u, h⟩) | h
  · exact .inl (.inl (by rw [upd_ne (ne_of h e (fun z => nomatch z))]; exact h))
  · exact .inl (.inr ⟨u, by rw [upd_ne (ne_of h e (fun z => nomatch z))]; exact h⟩)
  · exact .inr h
theorem dpTs_upK {H : Hp} {L : Addr} {xs : List V} {ds : List PyData} {kvs : List (Key × V)} {o : HO} (n : noLs ds) (e : H L = some (.dK kvs)) (h : DpAll K H xs ds) : DpAll K (upd H L o) xs ds := dpTs_map (fun _ _ z => sqT_updK z e) n h
/-- names by their places -/
def NamedBy {α : Type} (f : α → Str) (l : List α) : Prop := ∀ i s, l[i]? = some s → WordAt i (f s)
theorem NamedBy.nodup {α : Type} {f : α → Str} {l : List α} (h : NamedBy f l) : (l.map f).Nodup := by
  rw [List.nodup_iff_pairwise_ne, List.pairwise_iff_getElem]
  intro i j hi hj hij z
  rw [List.getElem_map, List.getElem_map] at z
  rw [List.length_map] at hi hj
  have h1 := h i _ (List.getElem?_eq_getElem hi)
  have h2 := h j _ (List.getElem?_eq_getElem hj)
  rw [z] at h1
  have := h1.inj h2
  omega
theorem NamedBy.snoc {α : Type} {f : α → Str} {l : List α} {s : α} (h : NamedBy f l) (k : WordAt l.length (f s)) : NamedBy f (l ++ [s]) := fun i t ht => by
  by_cases c : i < l.length
  · rw [List.getElem?_append_left c] at ht
    exact h i t ht
  · rw [List.getElem?_append_right (by omega)] at ht
    have e : i - l.length = 0 := by
      cases q : i - l.length with
      | zero => rfl
      | succ n => rw [q] at ht; cases ht
    rw [e] at ht
    have e2 : s = t := Option.some.inj ht
    have e3 : i = l.length := by omega
    rw [e3, ← e2]
    exact k
end
end DP
namespace DP
open PySem PySem.Spec PyProof.Rows L2
/-- what is known of a drawn world besides -/
structure WG (W : WorldD) : Prop where
  ok : WorldOk W
  h80 : W.horizon ≤ 80
  nR : W.recs.length ≤ 5
  nP : W.pass.length ≤ 5
  nT : 1 ≤ W.stas.length
  bS : NamedBy (·.name) W.sats
  bT : NamedBy (·.name) W.stas
  bR : NamedBy (·.name) W.recs
  bP : NamedBy (·.name) W.pass
  bL : ∀ s ∈ W.sats, s.level ≤ 1000
theorem noLs_sat (l : List SatD) : noLs (l.map satPy) := noLs_map noL_sat l
theorem noLs_sta (l : List StaD) : noLs (l.map staPy) := noLs_map noL_sta l
theorem noLs_rec (l : List RecD) : noLs (l.map recPy) := noLs_map noL_rec l
theorem noLs_pas (l : List PasD) : noLs (l.map pasPy) := noLs_map noL_pas l
theorem all_snoc {α : Type} {P : α → Prop} {l : List α} {a : α} (h : ∀ x ∈ l, P x) (k : P a) : ∀ x ∈ l ++ [a], P x := fun x hx => by
  rcases List.mem_append.mp hx with hx | hx
  · exact h x hx
  · rw [List.mem_singleton.mp hx]; exact k
section
variable {P : Program} {w : World} {K : PySem.W.Frag} {mg : Str → Option Value} {base : Heap}
def spWorld (K : PySem.W.Frag) : Sp := fun vs H Q _ => ∃ (a : Addr) (ns : List Int), vs = [.ref a] ∧ SqL K H a (ns.map V.int) ∧ ∀ wd H' W, H wd = none → Same H H' → WG W → WdAt K H' wd W → Q (.ref wd) H'
set_option maxHeartbeats 8000000 in
theorem d_world (B : Bt mg) (D_law_stream : DefOk P w K mg base CX0 2 "_law_stream" ["script", "first", "count"] (spStream K)) (D_law_next : DefOk P w K mg base CX0 1 "_law_next" ["stream", "many"] spNext) (D_law_word : DefOk P w K mg base CX0 2 "_law_word" ["stream", "index"] spWord)
    (D_law_satellite : DefOk P w K mg base CX0 3 "_law_satellite" ["stream", "index", "horizon"] (spGSat K)) (D_law_recording : DefOk P w K mg base CX0 3 "_law_recording" ["stream", "index", "satellites", "horizon"] (spGRec K)) (D_law_pass : DefOk P w K mg base CX0 3 "_law_pass" ["stream", "index", "satellites", "stations", "horizon"] (spGPas K))
    (A : At K mg "_law_world" s__law_world ["script"]) : DefOk P w K mg base CX0 4 "_law_world" ["script"] (spWorld K) := by
  refine A.ok sc__law_world (fun vs H Q E h => ?_) (fun f cdv A outer s H vs Q E hr h => ?_)
  · obtain ⟨a, ns, rfl, _⟩ := h
    rfl
  obtain ⟨a, ns, rfl, hS, q⟩ := h
  refine ⟨_, pss_cons (ps_set (i := 1) sc__law_world.nd rfl (Or.inr rfl) (pe_f D_law_stream (hr.mono (by omega)) pass0 (pa_cons (pv 0) (pa_cons pe_int (pa_cons pe_int pa_nil)))))
  (pss_cons (ps_set (i := 2) sc__law_world.nd rfl (Or.inr rfl) (pe_op op_add pe_int (pe_f D_law_next (hr.mono (by omega)) pass0 (pa_cons (pv 1) (pa_cons pe_int pa_nil)))))
  (C8.pss_cut (ps_if (pt_cmpR op_eq (pe_f D_law_next (hr.mono (by omega)) pass0 (pa_cons (pv 1) (pa_cons pe_int pa_nil))) pe_int (nomark _))
      (pss_one (ps_set (i := 2) sc__law_world.nd rfl (Or.inr rfl) (pe_op op_add pe_int (pe_f D_law_next (hr.mono (by omega)) pass0 (pa_cons (pv 1) (pa_cons pe_int pa_nil))))))
      (pss_nil))
  (pss_cons (ps_set (i := 3) sc__law_world.nd rfl (Or.inr rfl) (pe_op op_add (pe_op op_mod (pe_op op_fdiv (pe_f D_law_next (hr.mono (by omega)) pass0 (pa_cons (pv 1) (pa_cons pe_int pa_nil))) pe_int) pe_int) (pe_callTy (call_int1) (by rfl) B.int (by decide +kernel) (pa_cons (pe_cmpR op_gt (pe_f D_law_next (hr.mono (by omega)) pass0 (pa_cons (pv 1) (pa_cons pe_int pa_nil))) pe_int (nomark _)) pa_nil))))
  (pss_cons (ps_set (i := 4) sc__law_world.nd rfl (Or.inr rfl) (pe_op op_add pe_int (pe_op op_fdiv (pe_f D_law_next (hr.mono (by omega)) pass0 (pa_cons (pv 1) (pa_cons pe_int pa_nil))) pe_int)))
  (pss_cons (ps_set (i := 5) sc__law_world.nd rfl (Or.inl rfl) (pe_f D_law_next (hr.mono (by omega)) pass0 (pa_cons (pv 1) (pa_cons pe_int pa_nil))))
  (pss_cons (ps_set (i := 6) sc__law_world.nd rfl (Or.inl rfl) (pe_f D_law_next (hr.mono (by omega)) pass0 (pa_cons (pv 1) (pa_cons pe_int pa_nil))))
  (pss_cons (ps_set (i := 3) sc__law_world.nd rfl (Or.inr rfl) (pe_callB (call_min2 rfl) (by rfl) B.min (by decide +kernel) (pa_cons pe_int (pa_cons (pv 3) pa_nil))))
  (C8.pss_cut (ps_if (pt_cmpR op_eq (pv 3) pe_int (nomark _))
      (pss_cons (ps_set (i := 5) sc__law_world.nd rfl (Or.inl rfl) pe_int)
      (pss_one (ps_set (i := 6) sc__law_world.nd rfl (Or.inl rfl) pe_int)))
      (pss_nil))
  (pss_cons (ps_set (i := 7) sc__law_world.nd rfl (Or.inl rfl) (pe_disp (pps_cons pe_str (pv 2) (pps_cons pe_str (pe_lst pa_nil) (pps_cons pe_str (pe_lst pa_nil) (pps_cons pe_str (pe_lst pa_nil) (pps_cons pe_str (pe_lst pa_nil) pps_nil))))) (by rfl) (by rfl) (fun z => by cases z) (by decide)))
  (pss_cons (ps_dput (hu_of hr) (pv 7) pe_str (pe_lc (own := [("k", 8)])  rfl sc__law_world.nd (pi_range1 (by rfl) B.range (pa_cons (pv 3) pa_nil)) (blkOk_by (own := [("k", 8)]) (N := ["script", "stream", "horizon", "satellites", "stations", "recordings", "passes", "world", "k"]) (sc := defScope s__law_world) (by decide +kernel)) (fun _ _ _ _ _ => pg_name (i := 8) sc__law_world.nd rfl (Or.inl rfl)) (fun _ _ _ _ _ => pts_nil) (fun _ _ _ _ _ => (pe_f D_law_satellite (hr.mono (by omega)) pass0 (pa_cons (pv 1) (pa_cons (pv 8) (pa_cons (pv 2) pa_nil)))))) rfl)
  (pss_cons (ps_dput (hu_of hr) (pv 7) pe_str (pe_lc (own := [("k", 8)])  rfl sc__law_world.nd (pi_range1 (by rfl) B.range (pa_cons (pv 4) pa_nil)) (blkOk_by (own := [("k", 8)]) (N := ["script", "stream", "horizon", "satellites", "stations", "recordings", "passes", "world", "k"]) (sc := defScope s__law_world) (by decide +kernel)) (fun _ _ _ _ _ => pg_name (i := 8) sc__law_world.nd rfl (Or.inl rfl)) (fun _ _ _ _ _ => pts_nil) (fun _ _ _ _ _ => (pe_tup (pa_cons (pe_f D_law_word (hr.mono (by omega)) pass0 (pa_cons (pv 1) (pa_cons (pv 8) pa_nil))) (pa_cons (pe_op op_add pe_int (pe_op op_fdiv (pe_f D_law_next (hr.mono (by omega)) pass0 (pa_cons (pv 1) (pa_cons pe_int pa_nil))) pe_int)) (pa_cons (pe_f D_law_next (hr.mono (by omega)) pass0 (pa_cons (pv 1) (pa_cons pe_int pa_nil))) pa_nil)))))) rfl)
  (pss_cons (ps_dput (hu_of hr) (pv 7) pe_str (pe_lc (own := [("k", 8)])  rfl sc__law_world.nd (pi_range1 (by rfl) B.range (pa_cons (pv 5) pa_nil)) (blkOk_by (own := [("k", 8)]) (N := ["script", "stream", "horizon", "satellites", "stations", "recordings", "passes", "world", "k"]) (sc := defScope s__law_world) (by decide +kernel)) (fun _ _ _ _ _ => pg_name (i := 8) sc__law_world.nd rfl (Or.inl rfl)) (fun _ _ _ _ _ => pts_nil) (fun _ _ _ _ _ => (pe_f D_law_recording (hr.mono (by omega)) pass0 (pa_cons (pv 1) (pa_cons (pv 8) (pa_cons (pv 3) (pa_cons (pv 2) pa_nil))))))) rfl)
  (pss_cons (ps_dput (hu_of hr) (pv 7) pe_str (pe_lc (own := [("k", 8)])  rfl sc__law_world.nd (pi_range1 (by rfl) B.range (pa_cons (pv 6) pa_nil)) (blkOk_by (own := [("k", 8)]) (N := ["script", "stream", "horizon", "satellites", "stations", "recordings", "passes", "world", "k"]) (sc := defScope s__law_world) (by decide +kernel)) (fun _ _ _ _ _ => pg_name (i := 8) sc__law_world.nd rfl (Or.inl rfl)) (fun _ _ _ _ _ => pts_nil) (fun _ _ _ _ _ => (pe_f D_law_pass (hr.mono (by omega)) pass0 (pa_cons (pv 1) (pa_cons (pv 8) (pa_cons (pv 3) (pa_cons (pv 4) (pa_cons (pv 2) pa_nil)))))))) rfl)
  (pss_one (ps_ret (pv 7))))))))))))))))
    , ?_⟩
  refine ⟨_, rfl, a, ns, 0, 24, rfl, hS, by decide, by decide, by decide, fun st H1 hs1 _ hst => ?_⟩
  refine ⟨_, rfl, st, 41, rfl, by decide, hst, fun h0 h00 h01 => ⟨_, _, rfl, rfl, ?_⟩⟩
  refine ⟨fun σ' H' => H' = H1 ∧ ∃ h : Int, 1 ≤ h ∧ h ≤ 80 ∧ σ' = [some (.ref a), some (.ref st), some (.int h), none, none, none, none, none, none], ?_, fun σ' H' hm => ?_⟩
  · refine ⟨_, rfl, st, 8, rfl, by decide, hst, fun v v0 v1 => ⟨rfl, _, rfl, ite2 (fun c => ?_) (fun c => ?_)⟩⟩
    · exact ⟨_, rfl, st, 30, rfl, by decide, hst, fun u u0 u1 => ⟨_, _, rfl, rfl, rfl, 1 + u, by omega, by omega, rfl⟩⟩
    · exact ⟨rfl, 40 + h0, by omega, by omega, rfl⟩
  obtain ⟨rfl, h, h1, h80, rfl⟩ := hm
  refine ⟨_, rfl, st, 9, rfl, by decide, hst, fun v v0 v1 => ⟨_, _, rfl, rfl, ⟨by decide, by decide⟩, _, _, rfl, rfl, (by show (0 : Int) < 3; decide), _, rfl, st, 6, rfl, by decide, hst, fun u u0 u1 => ⟨_, _, rfl, rfl, .inr ⟨_, rfl, _, _, rfl, rfl, ?_⟩⟩⟩⟩
  obtain ⟨n0, en0⟩ : ∃ z : Int, v / 3 % 3 + (if decide (0 < u) = true then 1 else 0) = z := ⟨_, rfl⟩
  have bn0 : 0 ≤ n0 ∧ n0 ≤ 3 := by
    rw [← en0]
    split <;> omega
  refine ⟨_, rfl, st, 3, rfl, by decide, hst, fun t t0 t1 => ⟨_, _, rfl, rfl, ⟨by decide, by decide⟩, _, _, rfl, rfl, ?_⟩⟩
  refine ⟨_, rfl, st, 6, rfl, by decide, hst, fun r r0 r1 => ?_⟩
  refine ⟨_, rfl, st, 6, rfl, by decide, hst, fun p p0 p1 => ?_⟩
  refine ⟨_, rfl, _, _, rfl, ?_⟩
  obtain ⟨n, en⟩ : ∃ z : Int, (if v / 3 % 3 + (if decide (0 < u) = true then 1 else 0) < 3 then v / 3 % 3 + (if decide (0 < u) = true then 1 else 0) else 3) = z := ⟨_, rfl⟩
  have bn : 0 ≤ n ∧ n ≤ 3 := by
    rw [← en, en0]
    split <;> omega
  refine ⟨fun σ' H2 => H2 = H' ∧ ∃ r p : Int, 0 ≤ r ∧ r < 6 ∧ 0 ≤ p ∧ p < 6 ∧ (n = 0 → r = 0 ∧ p = 0) ∧ σ' = [some (.ref a), some (.ref st), some (.int h), some (.int n), some (.int (1 + t / 2)), some (.int r), some (.int p), none, none], ?_, fun σ' H2 hm => ?_⟩
  · refine ⟨_, rfl, rfl, _, rfl, ite2 (fun c => ?_) (fun c => ?_)⟩
    · refine ⟨rfl, 0, 0, by omega, by omega, by omega, by omega, fun _ => ⟨rfl, rfl⟩, ?_⟩
      rw [← en]
      rfl
    · refine ⟨rfl, r, p, by omega, by omega, by omega, by omega, fun z => absurd ?_ c, ?_⟩
      · refine decide_eq_true ?_
        show V.int (if v / 3 % 3 + (if decide (0 < u) = true then 1 else 0) < 3 then v / 3 % 3 + (if decide (0 < u) = true then 1 else 0) else 3) = V.int 0
        rw [en, z]
      · rw [← en]
        rfl
  clear en en0 bn0
  obtain ⟨rfl, r, p, r0, r1, p0, p1, hzero, rfl⟩ := hm
  -- the dict
  refine fun wd hwd => ⟨_, rfl, Nat.zero_le _, fun l1 hl1 => ⟨Nat.zero_le _, fun l2 hl2 => ⟨Nat.zero_le _, fun l3 hl3 => ⟨Nat.zero_le _, fun l4 hl4 => ?_⟩⟩⟩⟩
  have g1 := same_new hl1 (.lst [])
  have g2 := same_new hl2 (.lst [])
  have g3 := same_new hl3 (.lst [])
  have g4 := same_new hl4 (.lst [])
  have gA := g1.trans (g2.trans (g3.trans g4))
  refine ⟨gA _ _ upd_same, wdK h l1 l2 l3 l4, rfl, by show 5 ≤ 15; decide, ?_⟩
  rw [wd_merge]
  have s3 : Same H2 (upd (upd (upd (upd (upd (upd H2 wd (.dK [])) l1 (.lst [])) l2 (.lst [])) l3 (.lst [])) l4 (.lst [])) wd (.dK (wdK h l1 l2 l3 l4))) := same_at hwd ((same_new hwd _).trans gA) _
  have w3 : (upd (upd (upd (upd (upd (upd H2 wd (.dK [])) l1 (.lst [])) l2 (.lst [])) l3 (.lst [])) l4 (.lst [])) wd (.dK (wdK h l1 l2 l3 l4))) wd = some (.dK (wdK h l1 l2 l3 l4)) := upd_same
  generalize (upd (upd (upd (upd (upd (upd H2 wd (.dK [])) l1 (.lst [])) l2 (.lst [])) l3 (.lst [])) l4 (.lst [])) wd (.dK (wdK h l1 l2 l3 l4))) = H3 at s3 w3
  have hwd0 : H wd = none := hs1.free hwd
  -- satellites
  refine ⟨_, rfl, n, rfl, by omega, by omega, fun D1 hD1 => ?_⟩
  refine lc_range (lo := 0) (n := n.toNat) (fun i H' => ∃ (S : List SatD) (xs : List V), S.length = i ∧ H' D1 = some (.lst xs) ∧ xs.length = i ∧ DpAll K H' xs (S.map satPy) ∧ (∀ s ∈ S, SatOk h s ∧ s.level ≤ 1000) ∧ NamedBy (·.name) S ∧ Same H3 H')
    ⟨[], [], rfl, upd_same, rfl, .nil, fun _ z => absurd z List.not_mem_nil, fun i s z => by simp at z, same_new hD1 _⟩ (fun i H' hi hI => ?_) (fun H4 hI => ?_)
  · obtain ⟨S, xs, hl, hDD, hxl, hdp, hok, hnm, hs⟩ := hI
    refine ⟨rfl, _, rfl, _, rfl, _, rfl, st, i, h, by rw [Int.zero_add]; rfl, by omega, h1, h80, hst.same (s3.trans hs), fun x s H5 s5 ok5 nm5 dp5 lv5 => ?_⟩
    have d5 := s5 _ _ hDD
    refine ⟨xs, d5, by rw [hxl]; exact small1000 (by omega), S ++ [s], xs ++ [x], by rw [List.length_append, hl, List.length_singleton], upd_same, by rw [List.length_append, hxl, List.length_singleton], ?_, all_snoc hok ⟨ok5, lv5⟩, hnm.snoc (by rw [hl]; exact nm5), same_at hD1 (hs.trans s5) _⟩
    rw [List.map_append]
    exact dpAll_snoc (dpTs_up (noLs_sat S) d5 (dpAll_same s5 hdp)) (dpT_up (noL_sat s) d5 dp5)
  obtain ⟨S, xa, lS, dS, _, pS, okS, nmS, sS⟩ := hI
  have w4 := sS _ _ w3
  have n1 : D1 ≠ wd := ne_of dS w4 (fun z => nomatch z)
  refine ⟨_, rfl, wd, _, rfl, DPut.k (k := Sum.inr "satellites") w4 (by show 5 < sizeLine; decide), ?_⟩
  rw [wd_putS]
  have s5 : Same H2 (upd H4 wd (.dK (wdK h D1 l2 l3 l4))) := same_at hwd (s3.trans sS) _
  have w5 : (upd H4 wd (.dK (wdK h D1 l2 l3 l4))) wd = some (.dK (wdK h D1 l2 l3 l4)) := upd_same
  have a5 : (upd H4 wd (.dK (wdK h D1 l2 l3 l4))) D1 = some (.lst xa) := by rw [upd_ne n1]; exact dS
  have p5 : DpAll K (upd H4 wd (.dK (wdK h D1 l2 l3 l4))) xa (S.map satPy) := dpTs_upK (noLs_sat S) w4 pS
  generalize (upd H4 wd (.dK (wdK h D1 l2 l3 l4))) = H5 at s5 w5 a5 p5
  -- stations
  refine ⟨_, rfl, 1 + t / 2, rfl, by omega, by omega, fun D2 hD2 => ?_⟩
  refine lc_range (lo := 0) (n := (1 + t / 2).toNat) (fun i H' => ∃ (T : List StaD) (xs : List V), T.length = i ∧ H' D2 = some (.lst xs) ∧ xs.length = i ∧ DpAll K H' xs (T.map staPy) ∧ (∀ s ∈ T, StaOk s) ∧ NamedBy (·.name) T ∧ Same H5 H')
    ⟨[], [], rfl, upd_same, rfl, .nil, fun _ z => absurd z List.not_mem_nil, fun i s z => by simp at z, same_new hD2 _⟩ (fun i H' hi hI => ?_) (fun H6 hI => ?_)
  · obtain ⟨T, xs, hl, hDD, hxl, hdp, hok, hnm, hs⟩ := hI
    refine ⟨rfl, _, rfl, _, rfl, st, i, by rw [Int.zero_add]; rfl, by omega, hst.same (s5.trans hs), fun u H7 s7 nm7 => ?_⟩
    have hst7 := hst.same (s5.trans (hs.trans s7))
    refine ⟨_, rfl, st, 4, rfl, by decide, hst7, fun an an0 an1 => ⟨_, _, rfl, rfl, ⟨by decide, by decide⟩, _, _, rfl, rfl, _, rfl, st, 7, rfl, by decide, hst7, fun tu tu0 tu1 => ⟨sz3, fun x hx => ?_⟩⟩⟩
    have s8 := same_new hx (.tup [.str u, .int (1 + an / 3), .int tu])
    have d7 := s8 _ _ (s7 _ _ hDD)
    refine ⟨xs, d7, by rw [hxl]; exact small1000 (by omega), T ++ [⟨u, 1 + an / 3, tu⟩], xs ++ [.ref x], by rw [List.length_append, hl, List.length_singleton], upd_same, by rw [List.length_append, hxl, List.length_singleton], ?_, all_snoc hok ⟨nm7.ok, by show 1 ≤ 1 + an / 3 ∧ 1 + an / 3 ≤ 3; omega, by show 0 ≤ tu ∧ tu ≤ 60; omega⟩, hnm.snoc (by rw [hl]; exact nm7), same_at hD2 (hs.trans (s7.trans s8)) _⟩
    rw [List.map_append]
    exact dpAll_snoc (dpTs_up (noLs_sta T) d7 (dpAll_same s8 (dpAll_same s7 hdp))) (dpT_up (noL_sta _) d7 (.tup (SqT.of upd_same) (.cons (.str _) (.cons (.int _) (.cons (.int _) .nil)))))
  obtain ⟨T, xb, lT, dT, _, pT, okT, nmT, sT⟩ := hI
  have w6 := sT _ _ w5
  have n2 : D2 ≠ wd := ne_of dT w6 (fun z => nomatch z)
  refine ⟨_, rfl, wd, _, rfl, DPut.k (k := Sum.inr "stations") w6 (by show 5 < sizeLine; decide), ?_⟩
  rw [wd_putT]
  have s7 : Same H2 (upd H6 wd (.dK (wdK h D1 D2 l3 l4))) := same_at hwd (s5.trans sT) _
  have w7 : (upd H6 wd (.dK (wdK h D1 D2 l3 l4))) wd = some (.dK (wdK h D1 D2 l3 l4)) := upd_same
  have a7 : (upd H6 wd (.dK (wdK h D1 D2 l3 l4))) D1 = some (.lst xa) := by rw [upd_ne n1]; exact sT _ _ a5
  have p7 : DpAll K (upd H6 wd (.dK (wdK h D1 D2 l3 l4))) xa (S.map satPy) := dpTs_upK (noLs_sat S) w6 (dpAll_same sT p5)
  have b7 : (upd H6 wd (.dK (wdK h D1 D2 l3 l4))) D2 = some (.lst xb) := by rw [upd_ne n2]; exact dT
  have q7 : DpAll K (upd H6 wd (.dK (wdK h D1 D2 l3 l4))) xb (T.map staPy) := dpTs_upK (noLs_sta T) w6 pT
  generalize (upd H6 wd (.dK (wdK h D1 D2 l3 l4))) = H7 at s7 w7 a7 p7 b7 q7
  -- recordings
  refine ⟨_, rfl, r, rfl, by omega, by omega, fun D3 hD3 => ?_⟩
  refine lc_range (lo := 0) (n := r.toNat) (fun i H' => ∃ (R : List RecD) (xs : List V), R.length = i ∧ H' D3 = some (.lst xs) ∧ xs.length = i ∧ DpAll K H' xs (R.map recPy) ∧ (∀ s ∈ R, ∀ W : WorldD, W.sats.length = n.toNat → W.horizon = h → RecOk W s) ∧ NamedBy (·.name) R ∧ Same H7 H')
    ⟨[], [], rfl, upd_same, rfl, .nil, fun _ z => absurd z List.not_mem_nil, fun i s z => by simp at z, same_new hD3 _⟩ (fun i H' hi hI => ?_) (fun H8 hI => ?_)
  · obtain ⟨R, xs, hl, hDD, hxl, hdp, hok, hnm, hs⟩ := hI
    have npos : 0 < n.toNat := by
      by_cases c : n = 0
      · have := (hzero c).1
        omega
      · omega
    refine ⟨rfl, _, rfl, _, rfl, _, rfl, _, rfl, st, i, n.toNat, h, by rw [Int.zero_add, show ((n.toNat : Nat) : Int) = n by omega]; rfl, by omega, npos, h1, h80, hst.same (s7.trans hs), fun x s H9 s9 ok9 nm9 dp9 => ?_⟩
    have d9 := s9 _ _ hDD
    refine ⟨xs, d9, by rw [hxl]; exact small1000 (by omega), R ++ [s], xs ++ [x], by rw [List.length_append, hl, List.length_singleton], upd_same, by rw [List.length_append, hxl, List.length_singleton], ?_, all_snoc hok ok9, hnm.snoc (by rw [hl]; exact nm9), same_at hD3 (hs.trans s9) _⟩
    rw [List.map_append]
    exact dpAll_snoc (dpTs_up (noLs_rec R) d9 (dpAll_same s9 hdp)) (dpT_up (noL_rec s) d9 dp9)
  obtain ⟨R, xc, lR, dR, _, pR, okR, nmR, sR⟩ := hI
  have w8 := sR _ _ w7
  have n3 : D3 ≠ wd := ne_of dR w8 (fun z => nomatch z)
  refine ⟨_, rfl, wd, _, rfl, DPut.k (k := Sum.inr "recordings") w8 (by show 5 < sizeLine; decide), ?_⟩
  rw [wd_putR]
  have s9 : Same H2 (upd H8 wd (.dK (wdK h D1 D2 D3 l4))) := same_at hwd (s7.trans sR) _
  have w9 : (upd H8 wd (.dK (wdK h D1 D2 D3 l4))) wd = some (.dK (wdK h D1 D2 D3 l4)) := upd_same
  have a9 : (upd H8 wd (.dK (wdK h D1 D2 D3 l4))) D1 = some (.lst xa) := by rw [upd_ne n1]; exact sR _ _ a7
  have p9 : DpAll K (upd H8 wd (.dK (wdK h D1 D2 D3 l4))) xa (S.map satPy) := dpTs_upK (noLs_sat S) w8 (dpAll_same sR p7)
  have b9 : (upd H8 wd (.dK (wdK h D1 D2 D3 l4))) D2 = some (.lst xb) := by rw [upd_ne n2]; exact sR _ _ b7
  have q9 : DpAll K (upd H8 wd (.dK (wdK h D1 D2 D3 l4))) xb (T.map staPy) := dpTs_upK (noLs_sta T) w8 (dpAll_same sR q7)
  have c9 : (upd H8 wd (.dK (wdK h D1 D2 D3 l4))) D3 = some (.lst xc) := by rw [upd_ne n3]; exact dR
  have r9 : DpAll K (upd H8 wd (.dK (wdK h D1 D2 D3 l4))) xc (R.map recPy) := dpTs_upK (noLs_rec R) w8 pR
  generalize (upd H8 wd (.dK (wdK h D1 D2 D3 l4))) = H9 at s9 w9 a9 p9 b9 q9 c9 r9
  -- passes
  refine ⟨_, rfl, p, rfl, by omega, by omega, fun D4 hD4 => ?_⟩
  refine lc_range (lo := 0) (n := p.toNat) (fun i H' => ∃ (R : List PasD) (xs : List V), R.length = i ∧ H' D4 = some (.lst xs) ∧ xs.length = i ∧ DpAll K H' xs (R.map pasPy) ∧ (∀ s ∈ R, ∀ W : WorldD, W.sats.length = n.toNat → W.stas.length = (1 + t / 2).toNat → W.horizon = h → PasOk W s) ∧ NamedBy (·.name) R ∧ Same H9 H')
    ⟨[], [], rfl, upd_same, rfl, .nil, fun _ z => absurd z List.not_mem_nil, fun i s z => by simp at z, same_new hD4 _⟩ (fun i H' hi hI => ?_) (fun HA hI => ?_)
  · obtain ⟨R, xs, hl, hDD, hxl, hdp, hok, hnm, hs⟩ := hI
    have npos : 0 < n.toNat := by
      by_cases c : n = 0
      · have := (hzero c).2
        omega
      · omega
    refine ⟨rfl, _, rfl, _, rfl, _, rfl, _, rfl, _, rfl, st, i, n.toNat, (1 + t / 2).toNat, h, by rw [Int.zero_add, show ((n.toNat : Nat) : Int) = n by omega, show (((1 + t / 2).toNat : Nat) : Int) = 1 + t / 2 by omega]; rfl, by omega, npos, by omega, h1, h80, hst.same (s9.trans hs), fun x s HB sB okB nmB dpB => ?_⟩
    have dB := sB _ _ hDD
    refine ⟨xs, dB, by rw [hxl]; exact small1000 (by omega), R ++ [s], xs ++ [x], by rw [List.length_append, hl, List.length_singleton], upd_same, by rw [List.length_append, hxl, List.length_singleton], ?_, all_snoc hok okB, hnm.snoc (by rw [hl]; exact nmB), same_at hD4 (hs.trans sB) _⟩
    rw [List.map_append]
    exact dpAll_snoc (dpTs_up (noLs_pas R) dB (dpAll_same sB hdp)) (dpT_up (noL_pas s) dB dpB)
  obtain ⟨Q4, xd, lP, dP, _, pP, okP, nmP, sP⟩ := hI
  have wA := sP _ _ w9
  have n4 : D4 ≠ wd := ne_of dP wA (fun z => nomatch z)
  refine ⟨_, rfl, wd, _, rfl, DPut.k (k := Sum.inr "passes") wA (by show 5 < sizeLine; decide), ?_⟩
  rw [wd_putP]
  have sB : Same H2 (upd HA wd (.dK (wdK h D1 D2 D3 D4))) := same_at hwd (s9.trans sP) _
  refine ⟨_, rfl, q wd _ ⟨h, S, T, R, Q4⟩ hwd0 (hs1.trans sB) ⟨⟨⟨h1, by show h ≤ 500; omega⟩, by show S.length ≤ 3; omega, by show T.length ≤ 3; omega, by show R.length ≤ 10; omega, by show Q4.length ≤ 10; omega, nmS.nodup, nmT.nodup, nmR.nodup, nmP.nodup, fun s hs => (okS s hs).1, okT,
    fun s hs => okR s hs _ lS rfl, fun s hs => okP s hs _ lS lT rfl⟩, h80, by show R.length ≤ 5; omega, by show Q4.length ≤ 5; omega, by show 1 ≤ T.length; omega, nmS, nmT, nmR, nmP, fun s hs => (okS s hs).2⟩ ⟨D1, D2, D3, D4, xa, xb, xc, xd, upd_same, ?_, ?_, ?_, ?_, ?_, ?_, ?_, ?_⟩⟩
  · rw [upd_ne n1]; exact sP _ _ a9
  · exact dpTs_upK (noLs_sat S) wA (dpAll_same sP p9)
  · rw [upd_ne n2]; exact sP _ _ b9
  · exact dpTs_upK (noLs_sta T) wA (dpAll_same sP q9)
  · rw [upd_ne n3]; exact sP _ _ c9
  · exact dpTs_upK (noLs_rec R) wA (dpAll_same sP r9)
  · rw [upd_ne n4]; exact dP
  · exact dpTs_upK (noLs_pas Q4) wA pP
end
end DP
namespace DP
open PySem PySem.Spec PyProof.Rows L2
abbrev s__law_is_integer : Stmt := topS 85
theorem sc__law_is_integer : FnScope ["actual"] ["actual"] (defScope s__law_is_integer) := ⟨rfl, rfl, rfl, by decide +kernel, rfl, by decide +kernel, by decide +kernel⟩
abbrev s__law_same : Stmt := topS 86
theorem sc__law_same : FnScope ["actual", "expected", "k"] ["actual", "expected"] (defScope s__law_same) := ⟨rfl, rfl, rfl, by decide +kernel, rfl, by decide +kernel, by decide +kernel⟩
/-- data of at most n layers, each of at most a thousand items -/
def Fit : Nat → PyData → Prop
  | 0, _ => False
  | _ + 1, .none => True
  | _ + 1, .bool _ => True
  | _ + 1, .int _ => True
  | _ + 1, .str _ => True
  | n + 1, .list ds => ds.length ≤ 1000 ∧ ∀ d ∈ ds, Fit n d
  | n + 1, .tuple ds => ds.length ≤ 1000 ∧ ∀ d ∈ ds, Fit n d
  | _ + 1, .dict _ => False
theorem dpAll_len {K : PySem.W.Frag} {H : Hp} : ∀ {xs : List V} {ds : List PyData}, DpAll K H xs ds → xs.length = ds.length
  | _, _, .nil => rfl
  | _, _, .cons _ t => by rw [List.length_cons, List.length_cons, dpAll_len t]
theorem dpAll_at {K : PySem.W.Frag} {H : Hp} : ∀ {xs : List V} {ds : List PyData} (i : Nat), DpAll K H xs ds → i < ds.length → ∃ x d, xs[i]? = some x ∧ ds[i]? = some d ∧ Dp K H x d
  | _, _, _, .nil, h => absurd h (Nat.not_lt_zero _)
  | _, _, 0, .cons (v := v) (d := d) a _, _ => ⟨v, d, rfl, rfl, a⟩
  | _, _, i + 1, .cons _ t, h => by
    obtain ⟨x, d, h1, h2, h3⟩ := dpAll_at i t (by rw [List.length_cons] at h; omega)
    exact ⟨x, d, by rw [List.getElem?_cons_succ]; exact h1, by rw [List.getElem?_cons_succ]; exact h2, h3⟩
theorem tyx_list {K : PySem.W.Frag} {H : Hp} {a : Addr} {xs : List V} (h : SqL K H a xs) : TyX K H (.ref a) (.type "list") := by
  rcases h with (h | ⟨o, h⟩) | ⟨o, _, _, h, c, _⟩
  · exact .base (.lst h)
  · exact .base (.frz h)
  · exact .kList h c
theorem tyx_tup {K : PySem.W.Frag} {H : Hp} {a : Addr} {xs : List V} (h : SqT K H a xs) : TyX K H (.ref a) (.type "tuple") := by
  rcases h with (h | ⟨o, h⟩) | ⟨o, _, _, h, c, _⟩
  · exact .base (.tup h)
  · exact .fTuple h
  · exact .kTuple h c
/-- the built-in class of data -/
def tyD : PyData → String
  | .none => "NoneType"
  | .bool _ => "bool"
  | .int _ => "int"
  | .str _ => "str"
  | .list _ => "list"
  | .tuple _ => "tuple"
  | .dict _ => "dict"
theorem tyx_d {K : PySem.W.Frag} {H : Hp} {x : V} {d : PyData} (h : Dp K H x d) : TyX K H x (.type (tyD d)) := by
  cases h with
  | non => exact .base .non
  | bl b => exact .base (.bl b)
  | int i => exact .base (.int i)
  | str x => exact .base (.str x)
  | lst h _ => exact tyx_list h
  | tup h _ => exact tyx_tup h
section
variable {P : Program} {w : World} {K : PySem.W.Frag} {mg : Str → Option Value} {base : Heap}
def spIsInt : Sp := fun vs H Q _ => ∃ i : Int, vs = [.int i] ∧ Q (.bl true) H
theorem d_is_integer (B : Bt mg) (A : At K mg "_law_is_integer" s__law_is_integer ["actual"]) : DefOk P w K mg base CX0 1 "_law_is_integer" ["actual"] spIsInt := by
  refine A.ok sc__law_is_integer (fun vs H Q E h => ?_) (fun f cdv A outer s H vs Q E hr h => ?_)
  · obtain ⟨i, rfl, _⟩ := h
    rfl
  obtain ⟨i, rfl, q⟩ := h
  refine ⟨_, pss_one (ps_ret (pe_and (pe_callB (call_isi) (by rfl) B.isinstance (by decide +kernel) (pa_cons (pv 0) (pa_cons (pe_bltn (v := .ty "int") (u := .type "int") (by rfl) B.int (by decide +kernel) rfl) pa_nil))) (pe_one (pe_not (pe_callB (call_isi) (by rfl) B.isinstance (by decide +kernel) (pa_cons (pv 0) (pa_cons (pe_bltn (v := .ty "bool") (u := .type "bool") (by rfl) B.bool (by decide +kernel) rfl) pa_nil)))))))
    , ?_⟩
  refine ⟨_, rfl, _, .ty "int", _, _, true, rfl, .ty "int", .base (.int i), kit_ty (by decide +kernel), true, rfl, iteT ?_⟩
  exact ⟨_, rfl, _, .ty "bool", _, _, false, rfl, .ty "bool", .base (.int i), kit_ty (by decide +kernel), false, rfl, q⟩
/-- two values that read as the same data of at most n layers -/
def spSame (K : PySem.W.Frag) (n : Nat) : Sp := fun vs H Q _ => ∃ (x y : V) (d : PyData), vs = [x, y] ∧ Fit n d ∧ Dp K H x d ∧ Dp K H y d ∧ Q (.bl true) H
theorem d_same1 {n : Nat} (B : Bt mg) (D_law_is_integer : DefOk P w K mg base CX0 1 "_law_is_integer" ["actual"] spIsInt) (D_law_same : DefOk P w K mg base CX0 (n + 1) "_law_same" ["actual", "expected"] (spSame K n))
    (A : At K mg "_law_same" s__law_same ["actual", "expected"]) : DefOk P w K mg base CX0 (n + 2) "_law_same" ["actual", "expected"] (spSame K (n + 1)) := by
  refine A.ok sc__law_same (fun vs H Q E h => ?_) (fun f cdv A outer s H vs Q E hr h => ?_)
  · obtain ⟨x, y, d, rfl, _⟩ := h
    rfl
  obtain ⟨x, y, d, rfl, fit, dx, dy, q⟩ := h
  refine ⟨_, pss_cons (ps_if (pt_cmpR op_isN (pv 1) pe_non (nomark _))
      (pss_one (ps_ret (pe_cmpR op_isN (pv 0) pe_non (nomark _))))
      (pss_nil))
  (pss_cons (ps_if (pt_val (pe_callB (call_isi) (by rfl) B.isinstance (by decide +kernel) (pa_cons (pv 1) (pa_cons (pe_bltn (v := .ty "bool") (u := .type "bool") (by rfl) B.bool (by decide +kernel) rfl) pa_nil))))
      (pss_one (ps_ret (pe_and (pe_callB (call_isi) (by rfl) B.isinstance (by decide +kernel) (pa_cons (pv 0) (pa_cons (pe_bltn (v := .ty "bool") (u := .type "bool") (by rfl) B.bool (by decide +kernel) rfl) pa_nil))) (pe_one (pe_cmpR op_eq (pv 0) (pv 1) (nomark _))))))
      (pss_nil))
  (pss_cons (ps_if (pt_val (pe_callB (call_isi) (by rfl) B.isinstance (by decide +kernel) (pa_cons (pv 1) (pa_cons (pe_bltn (v := .ty "int") (u := .type "int") (by rfl) B.int (by decide +kernel) rfl) pa_nil))))
      (pss_one (ps_ret (pe_and (pe_f D_law_is_integer (hr.mono (by omega)) pass0 (pa_cons (pv 0) pa_nil)) (pe_one (pe_cmpR op_eq (pv 0) (pv 1) (nomark _))))))
      (pss_nil))
  (pss_cons (ps_if (pt_val (pe_callB (call_isi) (by rfl) B.isinstance (by decide +kernel) (pa_cons (pv 1) (pa_cons (pe_bltn (v := .ty "str") (u := .type "str") (by rfl) B.str (by decide +kernel) rfl) pa_nil))))
      (pss_one (ps_ret (pe_and (pe_callB (call_isi) (by rfl) B.isinstance (by decide +kernel) (pa_cons (pv 0) (pa_cons (pe_bltn (v := .ty "str") (u := .type "str") (by rfl) B.str (by decide +kernel) rfl) pa_nil))) (pe_one (pe_cmpR op_eq (pv 0) (pv 1) (nomark _))))))
      (pss_nil))
  (pss_cons (ps_if (PW.pt (pw_and (pt_val (pe_callB (call_isi) (by rfl) B.isinstance (by decide +kernel) (pa_cons (pv 1) (pa_cons (pe_bltn (v := .ty "tuple") (u := .type "tuple") (by rfl) B.tuple (by decide +kernel) rfl) pa_nil)))) (pw_and1 (pt_not (pt_val (pe_callB (call_isi) (by rfl) B.isinstance (by decide +kernel) (pa_cons (pv 0) (pa_cons (pe_bltn (v := .ty "tuple") (u := .type "tuple") (by rfl) B.tuple (by decide +kernel) rfl) pa_nil))))))))
      (pss_one (ps_ret pe_bl))
      (pss_nil))
  (pss_cons (ps_if (PW.pt (pw_and (pt_val (pe_callB (call_isi) (by rfl) B.isinstance (by decide +kernel) (pa_cons (pv 1) (pa_cons (pe_bltn (v := .ty "list") (u := .type "list") (by rfl) B.list (by decide +kernel) rfl) pa_nil)))) (pw_and1 (pt_not (pt_val (pe_callB (call_isi) (by rfl) B.isinstance (by decide +kernel) (pa_cons (pv 0) (pa_cons (pe_bltn (v := .ty "list") (u := .type "list") (by rfl) B.list (by decide +kernel) rfl) pa_nil))))))))
      (pss_one (ps_ret pe_bl))
      (pss_nil))
  (pss_cons (ps_if (pt_cmpR op_ne (pe_callB (call_len_seq) (by rfl) B.len (by decide +kernel) (pa_cons (pv 0) pa_nil)) (pe_callB (call_len_seq) (by rfl) B.len (by decide +kernel) (pa_cons (pv 1) pa_nil)) (nomark _))
      (pss_one (ps_ret pe_bl))
      (pss_nil))
  (pss_cons (ps_for PassesOwn.never rfl (pi_range1 (by rfl) B.range (pa_cons (pe_callB (call_len_seq) (by rfl) B.len (by decide +kernel) (pa_cons (pv 1) pa_nil)) pa_nil)) (pg_name (i := 2) sc__law_same.nd rfl (Or.inl rfl))
      (pss_one (ps_if (pt_not (pt_val (pe_f D_law_same (hr.mono (by omega)) pass0 (pa_cons (pe_ix ix_seq (pv 0) (pv 2) (fun _ _ => rfl)) (pa_cons (pe_ix ix_seq (pv 1) (pv 2) (fun _ _ => rfl)) pa_nil)))))
          (pss_one (ps_ret pe_bl))
          (pss_nil))))
  (pss_one (ps_ret pe_bl)))))))))
    , ?_⟩
  cases d with
  | none =>
    cases dx
    cases dy
    exact ⟨_, rfl, rfl, _, rfl, iteT' (by decide) ⟨_, rfl, rfl, q⟩⟩
  | bool b =>
    cases dx
    cases dy
    refine ⟨_, rfl, rfl, _, rfl, iteF' (decide_eq_false (fun z => nomatch z)) ⟨_, rfl, ⟨_, _, _, _, true, rfl, .ty _, tyx_d (.bl b), kit_ty (by simp only [tyD]; decide +kernel), ⟨_, rfl, iteT ?_⟩⟩⟩⟩
    refine ⟨_, rfl, ⟨_, _, _, _, true, rfl, .ty _, tyx_d (.bl b), kit_ty (by simp only [tyD]; decide +kernel), ⟨_, rfl, iteT ⟨_, rfl, _, rfl, rfl, ?_⟩⟩⟩⟩
    rw [decide_eq_true (rfl : V.bl b = V.bl b)]
    exact q
  | int i =>
    cases dx
    cases dy
    refine ⟨_, rfl, rfl, _, rfl, iteF' (decide_eq_false (fun z => nomatch z)) ⟨_, rfl, ⟨_, _, _, _, false, rfl, .ty _, tyx_d (.int i), kit_ty (by simp only [tyD]; decide +kernel), ⟨_, rfl, iteF ?_⟩⟩⟩⟩
    refine ⟨_, rfl, ⟨_, _, _, _, true, rfl, .ty _, tyx_d (.int i), kit_ty (by simp only [tyD]; decide +kernel), ⟨_, rfl, iteT ?_⟩⟩⟩
    refine ⟨_, rfl, i, rfl, _, rfl, iteT ⟨_, rfl, _, rfl, rfl, ?_⟩⟩
    rw [decide_eq_true (rfl : V.int i = V.int i)]
    exact q
  | str z =>
    cases dx
    cases dy
    refine ⟨_, rfl, rfl, _, rfl, iteF' (decide_eq_false (fun z => nomatch z)) ⟨_, rfl, ⟨_, _, _, _, false, rfl, .ty _, tyx_d (.str z), kit_ty (by simp only [tyD]; decide +kernel), ⟨_, rfl, iteF ?_⟩⟩⟩⟩
    refine ⟨_, rfl, ⟨_, _, _, _, false, rfl, .ty _, tyx_d (.str z), kit_ty (by simp only [tyD]; decide +kernel), ⟨_, rfl, iteF ?_⟩⟩⟩
    refine ⟨_, rfl, ⟨_, _, _, _, true, rfl, .ty _, tyx_d (.str z), kit_ty (by simp only [tyD]; decide +kernel), ⟨_, rfl, iteT ?_⟩⟩⟩
    refine ⟨_, rfl, ⟨_, _, _, _, true, rfl, .ty _, tyx_d (.str z), kit_ty (by simp only [tyD]; decide +kernel), ⟨_, rfl, iteT ⟨_, rfl, _, rfl, rfl, ?_⟩⟩⟩⟩
    rw [decide_eq_true (rfl : V.str z = V.str z)]
    exact q
  | dict kvs => cases fit
  | list ds =>
    have dx' := dx
    have dy' := dy
    cases dx with
    | @lst a xs _ hx ax =>
    cases dy with
    | @lst b ys _ hy ay =>
    refine ⟨_, rfl, rfl, _, rfl, iteF' (decide_eq_false (fun z => nomatch z)) ⟨_, rfl, ⟨_, _, _, _, false, rfl, .ty _, tyx_d dy', kit_ty (by simp only [tyD]; decide +kernel), ⟨_, rfl, iteF ?_⟩⟩⟩⟩
    refine ⟨_, rfl, ⟨_, _, _, _, false, rfl, .ty _, tyx_d dy', kit_ty (by simp only [tyD]; decide +kernel), ⟨_, rfl, iteF ?_⟩⟩⟩
    refine ⟨_, rfl, ⟨_, _, _, _, false, rfl, .ty _, tyx_d dy', kit_ty (by simp only [tyD]; decide +kernel), ⟨_, rfl, iteF ?_⟩⟩⟩
    refine ⟨_, rfl, ⟨_, _, _, _, false, rfl, .ty _, tyx_d dy', kit_ty (by simp only [tyD]; decide +kernel), ⟨_, rfl, iteF ?_⟩⟩⟩
    refine iteF ?_
    refine ⟨_, rfl, ⟨_, _, _, _, true, rfl, .ty _, tyx_d dy', kit_ty (by simp only [tyD]; decide +kernel), ⟨_, rfl, iteT ?_⟩⟩⟩
    refine ⟨_, rfl, ⟨_, _, _, _, true, rfl, .ty _, tyx_d dx', kit_ty (by simp only [tyD]; decide +kernel), ⟨_, rfl, iteF ?_⟩⟩⟩
    have lx := dpAll_len ax
    have ly := dpAll_len ay
    refine ⟨_, rfl, a, _, rfl, .inl hx, _, rfl, b, _, rfl, .inl hy, rfl, _, rfl, iteF' (by rw [lx, ly, decide_eq_true rfl]; rfl) ?_⟩
    have fl := fit.1
    refine ⟨_, rfl, b, _, rfl, .inl hy, _, rfl, by omega, by omega, for_range (lo := 0) (n := ys.length) (fun i σ H' => H' = H ∧ ∃ y2, σ = [some (.ref a), some (.ref b), y2]) ⟨rfl, none, rfl⟩ (fun i σ H1 hi hI => ?_) (fun σ H1 hI => ?_)⟩
    · obtain ⟨rfl, y2, rfl⟩ := hI
      obtain ⟨u, d1, u1, u2, u3⟩ := dpAll_at i ax (by omega)
      obtain ⟨v, d2, v1, v2, v3⟩ := dpAll_at i ay (by omega)
      have e : d1 = d2 := Option.some.inj (u2.symm.trans v2)
      subst e
      have fd := fit.2 d1 (List.mem_of_getElem? u2)
      have u4 : atI xs (0 + (i : Int)) = some u := by rw [Int.zero_add]; exact atI_nat u1
      have v4 : atI ys (0 + (i : Int)) = some v := by rw [Int.zero_add]; exact atI_nat v1
      refine ⟨_, rfl, _, rfl, .inl ⟨a, _, _, u, rfl, rfl, hx, u4, _, rfl, _, rfl, .inl ⟨b, _, _, v, rfl, rfl, hy, v4, u, v, d1, rfl, fd, u3, v3, ?_⟩⟩⟩
      exact ⟨_, rfl, iteF ⟨rfl, _, rfl⟩⟩
    · obtain ⟨rfl, y2, rfl⟩ := hI
      exact q
  | tuple ds =>
    have dx' := dx
    have dy' := dy
    cases dx with
    | @tup a xs _ hx ax =>
    cases dy with
    | @tup b ys _ hy ay =>
    refine ⟨_, rfl, rfl, _, rfl, iteF' (decide_eq_false (fun z => nomatch z)) ⟨_, rfl, ⟨_, _, _, _, false, rfl, .ty _, tyx_d dy', kit_ty (by simp only [tyD]; decide +kernel), ⟨_, rfl, iteF ?_⟩⟩⟩⟩
    refine ⟨_, rfl, ⟨_, _, _, _, false, rfl, .ty _, tyx_d dy', kit_ty (by simp only [tyD]; decide +kernel), ⟨_, rfl, iteF ?_⟩⟩⟩
    refine ⟨_, rfl, ⟨_, _, _, _, false, rfl, .ty _, tyx_d dy', kit_ty (by simp only [tyD]; decide +kernel), ⟨_, rfl, iteF ?_⟩⟩⟩
    refine ⟨_, rfl, ⟨_, _, _, _, true, rfl, .ty _, tyx_d dy', kit_ty (by simp only [tyD]; decide +kernel), ⟨_, rfl, iteT ?_⟩⟩⟩
    refine ⟨_, rfl, ⟨_, _, _, _, true, rfl, .ty _, tyx_d dx', kit_ty (by simp only [tyD]; decide +kernel), ⟨_, rfl, iteF ?_⟩⟩⟩
    refine ⟨_, rfl, ⟨_, _, _, _, false, rfl, .ty _, tyx_d dy', kit_ty (by simp only [tyD]; decide +kernel), ⟨_, rfl, iteF ?_⟩⟩⟩
    refine iteF ?_
    have lx := dpAll_len ax
    have ly := dpAll_len ay
    refine ⟨_, rfl, a, _, rfl, .inr hx, _, rfl, b, _, rfl, .inr hy, rfl, _, rfl, iteF' (by rw [lx, ly, decide_eq_true rfl]; rfl) ?_⟩
    have fl := fit.1
    refine ⟨_, rfl, b, _, rfl, .inr hy, _, rfl, by omega, by omega, for_range (lo := 0) (n := ys.length) (fun i σ H' => H' = H ∧ ∃ y2, σ = [some (.ref a), some (.ref b), y2]) ⟨rfl, none, rfl⟩ (fun i σ H1 hi hI => ?_) (fun σ H1 hI => ?_)⟩
    · obtain ⟨rfl, y2, rfl⟩ := hI
      obtain ⟨u, d1, u1, u2, u3⟩ := dpAll_at i ax (by omega)
      obtain ⟨v, d2, v1, v2, v3⟩ := dpAll_at i ay (by omega)
      have e : d1 = d2 := Option.some.inj (u2.symm.trans v2)
      subst e
      have fd := fit.2 d1 (List.mem_of_getElem? u2)
      have u4 : atI xs (0 + (i : Int)) = some u := by rw [Int.zero_add]; exact atI_nat u1
      have v4 : atI ys (0 + (i : Int)) = some v := by rw [Int.zero_add]; exact atI_nat v1
      refine ⟨_, rfl, _, rfl, .inr (.inl ⟨a, _, _, u, rfl, rfl, hx, u4, _, rfl, _, rfl, .inr (.inl ⟨b, _, _, v, rfl, rfl, hy, v4, u, v, d1, rfl, fd, u3, v3, ?_⟩)⟩)⟩
      exact ⟨_, rfl, iteF ⟨rfl, _, rfl⟩⟩
    · obtain ⟨rfl, y2, rfl⟩ := hI
      exact q
theorem none_same (A : At K mg "_law_same" s__law_same ["actual", "expected"]) : DefOk P w K mg base CX0 1 "_law_same" ["actual", "expected"] (spSame K 0) := by
  obtain ⟨f, fd, G, m, b⟩ := A.ex
  have no : ∀ vs H Q E, ¬ spSame K 0 vs H Q E := fun vs H Q E h => by
    obtain ⟨x, y, d, _, fit, _⟩ := h
    cases d <;> exact fit
  obtain ⟨oc, od, _, _, _, _, _, _, osl, _, lk, _⟩ := G.ex
  exact ⟨f, fd, ⟨fun vs H Q E h => absurd h (no vs H Q E), fun A outer s H args us vs Q E _ _ _ _ h => absurd h (no vs H Q E)⟩, m, G.kp, b, oc, od, osl, lk⟩
theorem d_same (B : Bt mg) (D : DefOk P w K mg base CX0 1 "_law_is_integer" ["actual"] spIsInt) (A : At K mg "_law_same" s__law_same ["actual", "expected"]) :
    ∀ n : Nat, DefOk P w K mg base CX0 (n + 1) "_law_same" ["actual", "expected"] (spSame K n)
  | 0 => none_same A
  | n + 1 => d_same1 B D (d_same B D A n) A
end
end DP
namespace DP
open PySem PySem.Spec PyProof.Rows L2
abbrev s__law_lines : Stmt := topS 81
theorem sc__law_lines : FnScope ["world", "lines", "name", "numbers", "light", "words", "k", "span", "antennas", "turn", "satellite", "urgency", "station"] ["world"] (defScope s__law_lines) := ⟨rfl, rfl, rfl, by decide +kernel, rfl, by decide +kernel, by decide +kernel⟩
abbrev s__law_text : Stmt := topS 82
theorem sc__law_text : FnScope ["world", "line"] ["world"] (defScope s__law_text) := ⟨rfl, rfl, rfl, by decide +kernel, rfl, by decide +kernel, by decide +kernel⟩
def flat : List (Str × Int) → List Str
  | [] => []
  | p :: r => p.1 :: num p.2 :: flat r
theorem flat_len : ∀ l : List (Str × Int), (flat l).length = 2 * l.length
  | [] => rfl
  | p :: r => by
    show (flat r).length + 1 + 1 = 2 * (r.length + 1)
    rw [flat_len r]
    omega
theorem flat_app : ∀ (l : List (Str × Int)) (p : Str × Int), flat (l ++ [p]) = flat l ++ [p.1, num p.2]
  | [], p => rfl
  | q :: r, p => by
    show q.1 :: num q.2 :: flat (r ++ [p]) = q.1 :: num q.2 :: (flat r ++ [p.1, num p.2])
    rw [flat_app r p]
theorem flat_take {l : List (Str × Int)} {i : Nat} {p : Str × Int} (h : l[i]? = some p) : flat (l.take (i + 1)) = flat (l.take i) ++ [p.1, num p.2] := by rw [take_snoc h, flat_app]
theorem lightW_app : ∀ (l : List (Int × Int)) (p : Int × Int), lightW (l ++ [p]) = lightW l ++ [num p.1, num p.2]
  | [], p => rfl
  | q :: r, p => by
    show num q.1 :: num q.2 :: lightW (r ++ [p]) = num q.1 :: num q.2 :: (lightW r ++ [num p.1, num p.2])
    rw [lightW_app r p]
theorem lightW_take {l : List (Int × Int)} {i : Nat} {p : Int × Int} (h : l[i]? = some p) : lightW (l.take (i + 1)) = lightW (l.take i) ++ [num p.1, num p.2] := by rw [take_snoc h, lightW_app]
def satKv (s : SatD) : List (Str × Int) := [("store", s.store), ("battery", s.battery), ("level", s.level), ("reserve", s.reserve), ("charge", s.charge), ("settle", s.settle)]
def recKv (r : RecD) : List (Str × Int) := [("from", r.earliest), ("to", r.latest), ("length", r.length), ("size", r.size), ("energy", r.energy)]
def recKu (r : RecD) : List (Str × Int) := [("worth", r.worth), ("rank", r.rank), ("until", r.deadline)]
def pasKv (p : PasD) : List (Str × Int) := [("room", p.room), ("energy", p.energy), ("fee", p.fee)]
theorem log_ok {n : Int} (h0 : 0 ≤ n) (h1 : n < 10000000) : n.natAbs.log2 < 1920 := by
  by_cases c : n.natAbs = 0
  · rw [c]; decide
  · refine (Nat.log2_lt c).mpr ?_
    have : n.natAbs < 2 ^ 24 := by omega
    exact Nat.lt_of_lt_of_le this (Nat.pow_le_pow_right (by decide) (by decide))
theorem num_len {n : Int} (h0 : 0 ≤ n) (h1 : n < 10000000) : (num n).length ≤ 7 := by
  rw [TL.len_tl, show TL.tl (num n) = tl (num n) from rfl, num_nat h0]
  exact numL_len7 (by omega)
theorem name_len {u : Str} (h : NameOk u) : u.length ≤ 15 := by
  obtain ⟨c, r, e, _, _, hl⟩ := h
  rw [TL.len_tl, show TL.tl u = tl u from rfl, e, List.length_cons]
  omega
theorem sum_len {ws : List Str} (h : ∀ w ∈ ws, WdOk w) : (ws.map (·.length)).sum ≤ 16 * ws.length := by
  induction ws with
  | nil => exact Nat.zero_le _
  | cons a r ih =>
    have h1 := wd_len (h a List.mem_cons_self)
    have h2 := ih fun w hw => h w (List.mem_cons_of_mem _ hw)
    rw [List.map_cons, List.sum_cons, List.length_cons]
    omega
theorem join_fits {ws : List Str} (h : ∀ w ∈ ws, WdOk w) (hl : ws.length ≤ 1015) : (ws.map (·.length)).sum + ws.length * sp.length ≤ 16777216 := by
  have h1 := sum_len h
  have h2 : sp.length = 1 := by decide +kernel
  rw [h2]
  omega
theorem row_hor (h : Int) : (Str.ofString "horizon " : Str) ++ num h = row (wHor h) := by
  refine TL.ext_tl ?_
  show tl (_ ++ _) = tl (Str.ofString "horizon" ++ sp ++ num h)
  rw [tl_app, tl_app, tl_app, show tl (Str.ofString "horizon ") = tl (Str.ofString "horizon") ++ tl sp by decide +kernel]
theorem row_sta (s : StaD) : (Str.ofString "station " : Str) ++ s.name ++ Str.ofString " antennas " ++ num s.antennas ++ Str.ofString " turn " ++ num s.turn = row (wSta s) := by
  refine TL.ext_tl ?_
  show tl _ = tl (Str.ofString "station" ++ sp ++ (s.name ++ sp ++ (Str.ofString "antennas" ++ sp ++ (num s.antennas ++ sp ++ (Str.ofString "turn" ++ sp ++ num s.turn)))))
  simp only [tl_app]
  rw [show tl (Str.ofString "station ") = tl (Str.ofString "station") ++ tl sp by decide +kernel, show tl (Str.ofString " antennas ") = tl sp ++ (tl (Str.ofString "antennas") ++ tl sp) by decide +kernel, show tl (Str.ofString " turn ") = tl sp ++ (tl (Str.ofString "turn") ++ tl sp) by decide +kernel]
  simp only [List.append_assoc]
theorem row_join (ws : List Str) : Txt.join sp ws = row ws := TL.join_eq sp ws
theorem dpAll_get {K : PySem.W.Frag} {H : Hp} {α : Type} {f : α → PyData} {xs : List V} {l : List α} {i : Nat} {x : V} (h : DpAll K H xs (l.map f)) (hx : xs[i]? = some x) : ∃ a, l[i]? = some a ∧ Dp K H x (f a) := by
  have hl := dpAll_len h
  have hi : i < xs.length := (List.getElem?_eq_some_iff.mp hx).1
  obtain ⟨y, d, h1, h2, h3⟩ := dpAll_at i h (by rw [← hl]; exact hi)
  rw [hx] at h1
  cases h1
  rw [List.getElem?_map] at h2
  cases e : l[i]? with
  | none => rw [e] at h2; cases h2
  | some a =>
    rw [e] at h2
    have ed : f a = d := Option.some.inj h2
    rw [← ed] at h3
    exact ⟨a, rfl, h3⟩
theorem dpAll_get2 {K : PySem.W.Frag} {H : Hp} {α : Type} {f : α → PyData} {xs : List V} {l : List α} {i : Nat} {a : α} (h : DpAll K H xs (l.map f)) (ha : l[i]? = some a) : ∃ x, xs[i]? = some x ∧ Dp K H x (f a) := by
  have hi : i < (l.map f).length := by
    rw [List.length_map]
    exact (List.getElem?_eq_some_iff.mp ha).1
  obtain ⟨y, d, h1, h2, h3⟩ := dpAll_at i h hi
  rw [List.getElem?_map, ha] at h2
  have ed : f a = d := Option.some.inj h2
  rw [← ed] at h3
  exact ⟨y, h1, h3⟩
theorem dp_tup {K : PySem.W.Frag} {H : Hp} {x : V} {ds : List PyData} (h : Dp K H x (.tuple ds)) : ∃ t xs, x = .ref t ∧ SqT K H t xs ∧ DpAll K H xs ds := by
  cases h with
  | tup h1 h2 => exact ⟨_, _, rfl, h1, h2⟩
theorem dp_ints {K : PySem.W.Frag} {H : Hp} : ∀ {xs : List V} {ns : List Int}, DpAll K H xs (ns.map PyData.int) → xs = ns.map V.int
  | _, [], .nil => rfl
  | _, n :: r, .cons h t => by
    cases h
    rw [dp_ints t]
    rfl
theorem dp_spans {K : PySem.W.Frag} {H : Hp} : ∀ {xs : List V} {qs : List (Int × Int)}, DpAll K H xs (qs.map spanPy) → Spans K H xs qs
  | _, [], .nil => .nil
  | _, q :: r, .cons h t => by
    refine .cons ?_ (dp_spans t)
    obtain ⟨a, xs, rfl, h1, h2⟩ := dp_tup h
    have e := dp_ints (ns := [q.1, q.2]) h2
    subst e
    exact ⟨a, rfl, h1⟩
/-- a satellite's tuple -/
theorem sat_open {K : PySem.W.Frag} {H : Hp} {x : V} {s : SatD} (h : Dp K H x (satPy s)) : ∃ t t1 t2 ls, x = .ref t ∧ SqT K H t [.str s.name, .ref t1, .ref t2] ∧ SqT K H t1 (((satKv s).map (·.2)).map V.int) ∧ SqT K H t2 ls ∧ Spans K H ls s.light := by
  obtain ⟨t, xs, rfl, h1, h2⟩ := dp_tup h
  cases h2 with
  | cons a0 h2 =>
  cases h2 with
  | cons a1 h2 =>
  cases h2 with
  | cons a2 h2 =>
  cases h2
  cases a0
  obtain ⟨t1, x1, rfl, b1, c1⟩ := dp_tup a1
  obtain ⟨t2, x2, rfl, b2, c2⟩ := dp_tup a2
  have e := dp_ints (ns := (satKv s).map (·.2)) c1
  subst e
  exact ⟨t, t1, t2, x2, rfl, h1, b1, b2, dp_spans c2⟩
theorem sta_open {K : PySem.W.Frag} {H : Hp} {x : V} {s : StaD} (h : Dp K H x (staPy s)) : ∃ t, x = .ref t ∧ SqT K H t [.str s.name, .int s.antennas, .int s.turn] := by
  obtain ⟨t, xs, rfl, h1, h2⟩ := dp_tup h
  cases h2 with
  | cons a0 h2 =>
  cases h2 with
  | cons a1 h2 =>
  cases h2 with
  | cons a2 h2 =>
  cases h2
  cases a0
  cases a1
  cases a2
  exact ⟨t, rfl, h1⟩
theorem rec_open {K : PySem.W.Frag} {H : Hp} {x : V} {s : RecD} (h : Dp K H x (recPy s)) : ∃ t t1 t2, x = .ref t ∧ SqT K H t [.str s.name, .int (s.sat : Int), .ref t1, .ref t2] ∧ SqT K H t1 (((recKv s).map (·.2)).map V.int) ∧ SqT K H t2 (((recKu s).map (·.2)).map V.int) := by
  obtain ⟨t, xs, rfl, h1, h2⟩ := dp_tup h
  cases h2 with
  | cons a0 h2 =>
  cases h2 with
  | cons a1 h2 =>
  cases h2 with
  | cons a2 h2 =>
  cases h2 with
  | cons a3 h2 =>
  cases h2
  cases a0
  cases a1
  obtain ⟨t1, x1, rfl, b1, c1⟩ := dp_tup a2
  obtain ⟨t2, x2, rfl, b2, c2⟩ := dp_tup a3
  have e := dp_ints (ns := (recKv s).map (·.2)) c1
  subst e
  have e := dp_ints (ns := (recKu s).map (·.2)) c2
  subst e
  exact ⟨t, t1, t2, rfl, h1, b1, b2⟩
theorem pas_open {K : PySem.W.Frag} {H : Hp} {x : V} {s : PasD} (h : Dp K H x (pasPy s)) : ∃ t t1 t2, x = .ref t ∧ SqT K H t [.str s.name, .int (s.sat : Int), .int (s.sta : Int), .ref t1, .ref t2] ∧ SqT K H t1 [.int s.first, .int s.fin] ∧ SqT K H t2 (((pasKv s).map (·.2)).map V.int) := by
  obtain ⟨t, xs, rfl, h1, h2⟩ := dp_tup h
  cases h2 with
  | cons a0 h2 =>
  cases h2 with
  | cons a1 h2 =>
  cases h2 with
  | cons a2 h2 =>
  cases h2 with
  | cons a3 h2 =>
  cases h2 with
  | cons a4 h2 =>
  cases h2
  cases a0
  cases a1
  cases a2
  obtain ⟨t1, x1, rfl, b1, c1⟩ := dp_tup a3
  obtain ⟨t2, x2, rfl, b2, c2⟩ := dp_tup a4
  have e := dp_ints (ns := [s.first, s.fin]) c1
  subst e
  have e := dp_ints (ns := (pasKv s).map (·.2)) c2
  subst e
  exact ⟨t, t1, t2, rfl, h1, b1, b2⟩
theorem kv_at {l : List (Str × Int)} {i : Nat} {p : Str × Int} (h : l[i]? = some p) : atI ((l.map (·.1)).map V.str) (0 + (i : Int)) = some (.str p.1) ∧ atI ((l.map (·.2)).map V.int) (0 + (i : Int)) = some (.int p.2) := by
  rw [Int.zero_add]
  exact ⟨atI_nat (by rw [List.getElem?_map, List.getElem?_map, h]; rfl), atI_nat (by rw [List.getElem?_map, List.getElem?_map, h]; rfl)⟩
def KvOk (l : List (Str × Int)) : Prop := ∀ p ∈ l, 0 ≤ p.2 ∧ p.2 < 10000000
end DP
namespace DP
open PySem PySem.Spec PyProof.Rows L2
def rStrI : List V → Hp → VK → Prop := fun xs H Q => ∃ i, xs = [.int i] ∧ i.natAbs.log2 < 1920 ∧ Q (.str (Str.ofString (toString i))) H
def tKv (K : PySem.W.Frag) (cs : TA) (j : Nat) : TS :=
  tDrop (tBM K "list" rExtend (tVar 5) (tCons (tLst (tCons (tOp (rIxL K) (tLst cs) (tVar 6)) (tCons (tCB rStrI (tCons (tOp (rIxT K) (tVar j) (tVar 6)) tNil)) tNil))) tNil))
/-- the law's variables -/
abbrev st13 (x0 x1 x2 x3 x4 x5 x6 x7 x8 x9 x10 x11 x12 : Option V) : L2.St := [x0, x1, x2, x3, x4, x5, x6, x7, x8, x9, x10, x11, x12]
theorem sz2_ : 2 ≤ sizeLine := Nat.le_trans (by decide : 2 ≤ 1000) (Nat.le_of_lt (small1000 (Nat.le_refl _)))
theorem kv_run {K : PySem.W.Frag} {cs : TA} {j : Nat} {l : List (Str × Int)} {n : Int} {t1 wa : Addr} {ws : List Str} {H0 H1 : Hp} {D : Ends} {x0 x1 x2 x3 x4 x6 x7 x8 x9 x10 x11 x12 : Option V}
    (hn : n = (l.length : Int)) (hcs : ∀ σ H Q, Q ((l.map (·.1)).map V.str) H → cs σ H Q) (hl : l.length ≤ 10) (hok : KvOk l)
    (n0 : H0 wa = none) (hs : Same H0 H1) (hw : H1 wa = some (.lst (ws.map V.str))) (hb : ws.length ≤ 900) (h1 : SqT K H0 t1 ((l.map (·.2)).map V.int))
    (hj : ∀ y H Q, Q (V.ref t1) H → tVar j (st13 x0 x1 x2 x3 x4 (some (.ref wa)) y x7 x8 x9 x10 x11 x12) H Q)
    (q : ∀ y H2, Same H0 H2 → H2 wa = some (.lst ((ws ++ flat l).map V.str)) → D.nx (st13 x0 x1 x2 x3 x4 (some (.ref wa)) y x7 x8 x9 x10 x11 x12) H2) :
    tFor (iRng1 (tCons (tC (V.int n)) tNil)) (gName 6) (tKv K cs j) D (st13 x0 x1 x2 x3 x4 (some (.ref wa)) x6 x7 x8 x9 x10 x11 x12) H1 := by
  subst hn
  refine ⟨_, rfl, by omega, by omega, for_range (n := (l.length : Int).toNat) (fun i σ H' => ∃ y, σ = st13 x0 x1 x2 x3 x4 (some (.ref wa)) y x7 x8 x9 x10 x11 x12 ∧ Same H0 H' ∧ H' wa = some (.lst ((ws ++ flat (l.take i)).map V.str)))
    ⟨x6, rfl, hs, by rw [List.take_zero]; show _ = some (HO.lst ((ws ++ []).map V.str)); rw [List.append_nil]; exact hw⟩ (fun i σ H' hi hI => ?_) (fun σ H' hI => ?_)⟩
  · obtain ⟨y, rfl, hs', hw'⟩ := hI
    have hi' : i < l.length := by omega
    have hp : l[i]? = some l[i] := List.getElem?_eq_getElem hi'
    obtain ⟨k1, k2⟩ := kv_at hp
    have hk := hok _ (List.mem_of_getElem? hp)
    refine ⟨_, rfl, .inl ⟨rfl, _, SqL.of hw'⟩, hcs _ _ _ ⟨?_, fun p hp1 => ⟨_, rfl, p, _, _, _, rfl, rfl, SqL.of upd_same, k1, ?_⟩⟩⟩
    · rw [List.length_map, List.length_map]; exact small (by omega)
    · dsimp only [tCons, tCB, tOp]
      refine hj (some (V.int (0 + (i : Int)))) _ _ ⟨_, rfl, t1, _, _, _, rfl, rfl, Same.tup (hs'.trans (same_new hp1 _)) h1, k2, _, rfl, log_ok hk.1 hk.2, sz2_, fun b hb1 => ?_⟩
      have nb : wa ≠ b := ne_of_none (same_new hp1 _ _ _ hw') hb1
      have hwb := (same_new hb1 (.lst [.str (l[i]).1, .str (Str.ofString (toString (l[i]).2))])) _ _ (same_new hp1 (.lst ((l.map (·.1)).map V.str)) _ _ hw')
      refine ⟨wa, b, _, _, rfl, rfl, hwb, upd_same, ?_, ?_⟩
      · rw [List.length_map, List.length_append, flat_len, List.length_take]
        exact small (by show _ + 2 ≤ _; omega)
      · refine ⟨_, rfl, same_at n0 (hs'.trans ((same_new hp1 _).trans (same_new hb1 _))) _, ?_⟩
        rw [upd_same, flat_take hp, ← List.append_assoc, List.map_append (l₁ := ws ++ flat (l.take i))]
        rfl
  · obtain ⟨y, rfl, hs', hw'⟩ := hI
    have e : (l.length : Int).toNat = l.length := by omega
    rw [e, List.take_length] at hw'
    exact q y H' hs' hw'
end DP
namespace DP
open PySem PySem.Spec PyProof.Rows L2
def tLight (K : PySem.W.Frag) : TS :=
  tDrop (tBM K "list" rExtend (tVar 5) (tCons (tLst (tCons (tCB rStrI (tCons (tOp (rIxT K) (tVar 7) (tC (V.int 0))) tNil)) (tCons (tCB rStrI (tCons (tOp (rIxT K) (tVar 7) (tC (V.int 1))) tNil)) tNil))) tNil))
theorem light_run {K : PySem.W.Frag} {l : List (Int × Int)} {ls : List V} {t2 wa : Addr} {ws : List Str} {H0 H1 : Hp} {D : Ends} {x0 x1 x2 x3 x6 x7 x8 x9 x10 x11 x12 : Option V}
    (hl : l.length ≤ 500) (hok : ∀ p ∈ l, (0 ≤ p.1 ∧ p.1 < 10000000) ∧ 0 ≤ p.2 ∧ p.2 < 10000000)
    (n0 : H0 wa = none) (hs : Same H0 H1) (hw : H1 wa = some (.lst (ws.map V.str))) (hb : ws.length ≤ 15) (h2 : SqT K H0 t2 ls) (h3 : Spans K H0 ls l) (hz : 2 * l.length + 15 ≤ 1000)
    (q : ∀ y H2, Same H0 H2 → H2 wa = some (.lst ((ws ++ lightW l).map V.str)) → D.nx (st13 x0 x1 x2 x3 (some (.ref t2)) (some (.ref wa)) x6 y x8 x9 x10 x11 x12) H2) :
    tFor (iTup K (tVar 4)) (gName 7) (tLight K) D (st13 x0 x1 x2 x3 (some (.ref t2)) (some (.ref wa)) x6 x7 x8 x9 x10 x11 x12) H1 := by
  have hlen := paired_len h3
  refine ⟨_, rfl, t2, rfl, ⟨_, Same.tup hs h2⟩, for_tup (K := K) (a := t2) (xs := ls) (fun i σ H' => ∃ y, σ = st13 x0 x1 x2 x3 (some (.ref t2)) (some (.ref wa)) x6 y x8 x9 x10 x11 x12 ∧ Same H0 H' ∧ H' wa = some (.lst ((ws ++ lightW (l.take i)).map V.str)))
    ⟨x7, rfl, hs, by rw [List.take_zero]; show _ = some (HO.lst ((ws ++ []).map V.str)); rw [List.append_nil]; exact hw⟩ (fun i σ H' _ hI => ?_) (fun i x σ H' hx hI => ?_) (fun σ H' hI => ?_)⟩
  · obtain ⟨y, rfl, hs', hw'⟩ := hI
    exact Same.tup hs' h2
  · obtain ⟨y, rfl, hs', hw'⟩ := hI
    obtain ⟨p, hp, t, rfl, ht⟩ := paired_at h3 hx
    have hi' : i < l.length := (List.getElem?_eq_some_iff.mp hp).1
    have hk := hok _ (List.mem_of_getElem? hp)
    have ht' := Same.tup hs' ht
    refine ⟨_, rfl, .inl ⟨rfl, _, SqL.of hw'⟩, _, rfl, t, _, 0, _, rfl, rfl, ht', rfl, _, rfl, log_ok hk.1.1 hk.1.2, _, rfl, t, _, 1, _, rfl, rfl, ht', rfl, _, rfl, log_ok hk.2.1 hk.2.2, sz2_, fun b hb1 => ?_⟩
    have nb : wa ≠ b := ne_of_none hw' hb1
    have hwb := (same_new hb1 (.lst [.str (Str.ofString (toString p.1)), .str (Str.ofString (toString p.2))])) _ _ hw'
    refine ⟨wa, b, _, _, rfl, rfl, hwb, upd_same, ?_, ?_⟩
    · rw [List.length_map, List.length_append, lightW_len, List.length_take]
      exact small (by show _ + 2 ≤ _; omega)
    · refine ⟨_, rfl, same_at n0 (hs'.trans (same_new hb1 _)) _, ?_⟩
      rw [upd_same, lightW_take hp, ← List.append_assoc, List.map_append (l₁ := ws ++ lightW (l.take i))]
      rfl
  · obtain ⟨y, rfl, hs', hw'⟩ := hI
    rw [hlen, List.take_length] at hw'
    exact q y H' hs' hw'
theorem lights_lt {h : Int} (hh : h ≤ 80) : ∀ {l : List (Int × Int)} {a : Int}, 0 ≤ a → LightOk a h l → ∀ p ∈ l, (0 ≤ p.1 ∧ p.1 < 10000000) ∧ 0 ≤ p.2 ∧ p.2 < 10000000
  | [], _, _, _, p, hp => absurd hp List.not_mem_nil
  | q :: r, a, ha, ⟨h1, h2, h3, h4⟩, p, hp => by
    rcases List.mem_cons.mp hp with rfl | hp
    · exact ⟨⟨by omega, by omega⟩, by omega, by omega⟩
    · exact lights_lt hh (by omega) h4 p hp
theorem satKv_ok {h : Int} {s : SatD} (ok : SatOk h s) : KvOk (satKv s) := fun p hp => by
  obtain ⟨_, a1, a2, a3, a4, a5, a6, _⟩ := ok
  simp only [satKv, List.mem_cons, List.not_mem_nil, or_false] at hp
  rcases hp with rfl | rfl | rfl | rfl | rfl | rfl <;> dsimp only <;> omega
theorem recKv_ok {W : WorldD} {s : RecD} (hh : W.horizon ≤ 80) (ok : RecOk W s) : KvOk (recKv s) := fun p hp => by
  obtain ⟨_, _, a1, a2, a3, a4, a5, a6, a7, a8⟩ := ok
  simp only [recKv, List.mem_cons, List.not_mem_nil, or_false] at hp
  rcases hp with rfl | rfl | rfl | rfl | rfl <;> dsimp only <;> omega
theorem recKu_ok {W : WorldD} {s : RecD} (hh : W.horizon ≤ 80) (ok : RecOk W s) : KvOk (recKu s) := fun p hp => by
  obtain ⟨_, _, a1, a2, a3, a4, a5, a6, a7, a8⟩ := ok
  simp only [recKu, List.mem_cons, List.not_mem_nil, or_false] at hp
  rcases hp with rfl | rfl | rfl <;> dsimp only <;> omega
theorem pasKv_ok {W : WorldD} {s : PasD} (ok : PasOk W s) : KvOk (pasKv s) := fun p hp => by
  obtain ⟨_, _, _, a1, a2, a3, a4, a5⟩ := ok
  simp only [pasKv, List.mem_cons, List.not_mem_nil, or_false] at hp
  rcases hp with rfl | rfl | rfl <;> dsimp only <;> omega
theorem add_fits {a b : Str} {m n : Nat} (ha : a.length ≤ m) (hb : b.length ≤ n) (h : m + n ≤ 1000) : a.length + b.length ≤ sizeLine := small (by omega)
theorem len_add {a b : Str} {m n : Nat} (ha : a.length ≤ m) (hb : b.length ≤ n) : (a ++ b).length ≤ m + n := by
  rw [TL.len_tl] at ha hb ⊢
  rw [show TL.tl (a ++ b) = TL.tl a ++ TL.tl b from tl_app a b, List.length_append]
  omega
theorem sz4_ : 4 ≤ sizeLine := Nat.le_trans (by decide : 4 ≤ 1000) (Nat.le_of_lt (small1000 (Nat.le_refl _)))
theorem sz6_ : 6 ≤ sizeLine := Nat.le_trans (by decide : 6 ≤ 1000) (Nat.le_of_lt (small1000 (Nat.le_refl _)))
theorem sz10_ : 10 ≤ sizeLine := Nat.le_trans (by decide : 10 ≤ 1000) (Nat.le_of_lt (small1000 (Nat.le_refl _)))
theorem satN_of {W : WorldD} {i : Nat} {s : SatD} (h : W.sats[i]? = some s) : satN W i = s.name := by
  unfold satN
  rw [List.getElem?_map, h]
  rfl
theorem staN_of {W : WorldD} {i : Nat} {s : StaD} (h : W.stas[i]? = some s) : staN W i = s.name := by
  unfold staN
  rw [List.getElem?_map, h]
  rfl
theorem get_h {H : Hp} {wd : Addr} {h : Int} {a b c d : Addr} (g : H wd = some (.dK (wdK h a b c d))) : DGet H wd (.str "horizon") (some (.int h)) := by
  have := DGet.k (k := Sum.inr "horizon") g
  rw [wd_h] at this
  exact this
theorem get_s {H : Hp} {wd : Addr} {h : Int} {a b c d : Addr} (g : H wd = some (.dK (wdK h a b c d))) : DGet H wd (.str "satellites") (some (.ref a)) := by
  have := DGet.k (k := Sum.inr "satellites") g
  rw [wd_s] at this
  exact this
theorem get_t {H : Hp} {wd : Addr} {h : Int} {a b c d : Addr} (g : H wd = some (.dK (wdK h a b c d))) : DGet H wd (.str "stations") (some (.ref b)) := by
  have := DGet.k (k := Sum.inr "stations") g
  rw [wd_t] at this
  exact this
theorem get_r {H : Hp} {wd : Addr} {h : Int} {a b c d : Addr} (g : H wd = some (.dK (wdK h a b c d))) : DGet H wd (.str "recordings") (some (.ref c)) := by
  have := DGet.k (k := Sum.inr "recordings") g
  rw [wd_r] at this
  exact this
theorem get_p {H : Hp} {wd : Addr} {h : Int} {a b c d : Addr} (g : H wd = some (.dK (wdK h a b c d))) : DGet H wd (.str "passes") (some (.ref d)) := by
  have := DGet.k (k := Sum.inr "passes") g
  rw [wd_p] at this
  exact this
theorem app_step {α : Type} {dk : List (List Str)} {f : α → List Str} {l : List α} {i : Nat} {x : α} (h : l[i]? = some x) : (((dk ++ (l.take i).map f).map row).map V.str) ++ [V.str (row (f x))] = ((dk ++ (l.take (i + 1)).map f).map row).map V.str := by
  rw [take_snoc h]
  simp only [List.map_append, List.map_cons, List.map_nil, List.append_assoc]
theorem app_zero {α : Type} {dk : List (List Str)} {f : α → List Str} {l : List α} : ((dk ++ (l.take 0).map f).map row).map V.str = (dk.map row).map V.str := by
  rw [List.take_zero, List.map_nil, List.append_nil]
theorem app_len {α : Type} {dk : List (List Str)} {f : α → List Str} {l : List α} {i n : Nat} (hd : dk.length ≤ n) (hl : l.length ≤ 20) (hn : n ≤ 60) : (((dk ++ (l.take i).map f).map row).map V.str).length < sizeLine := by
  rw [List.length_map, List.length_map, List.length_append, List.length_map, List.length_take]
  exact small1000 (by omega)
def done1 (W : WorldD) : List (List Str) := [wHor W.horizon] ++ W.sats.map wSat
def done2 (W : WorldD) : List (List Str) := done1 W ++ W.stas.map wSta
def done3 (W : WorldD) : List (List Str) := done2 W ++ W.recs.map (wRec W)
def done4 (W : WorldD) : List (List Str) := done3 W ++ W.pass.map (wPas W)
theorem done4_eq (W : WorldD) : done4 W = linesW W := by
  show [wHor W.horizon] ++ W.sats.map wSat ++ W.stas.map wSta ++ W.recs.map (wRec W) ++ W.pass.map (wPas W) = _
  unfold linesW
  simp only [List.append_assoc, List.cons_append, List.nil_append]
theorem wSat_eq (s : SatD) : [Str.ofString "satellite", s.name] ++ flat (satKv s) ++ [Str.ofString "light"] ++ lightW s.light = wSat s := rfl
theorem wRec_eq (W : WorldD) (r : RecD) : [Str.ofString "recording", r.name, Str.ofString "by", satN W r.sat] ++ flat (recKv r) ++ flat (recKu r) = wRec W r := rfl
theorem wPas_eq (W : WorldD) (p : PasD) : [Str.ofString "pass", p.name, Str.ofString "by", satN W p.sat, Str.ofString "over", staN W p.sta] ++ [Str.ofString "from", num p.first, Str.ofString "to", num p.fin] ++ flat (pasKv p) = wPas W p := rfl
theorem join_sp (ws : List Str) : Txt.join (Str.ofString " ") ws = row ws := row_join ws
end DP
namespace DP
open PySem PySem.Spec PyProof.Rows L2
section
variable {P : Program} {w : World} {K : PySem.W.Frag} {mg : Str → Option Value} {base : Heap}
def spLawLines (K : PySem.W.Frag) : Sp := fun vs H Q _ => ∃ (wd : Addr) (W : WorldD), vs = [.ref wd] ∧ WG W ∧ WdAt K H wd W ∧ ∀ L H', Same H H' → H L = none → H' L = some (.lst (((linesW W).map row).map V.str)) → Q (.ref L) H'
set_option maxHeartbeats 8000000 in
theorem d_law_lines (B : Bt mg) (A : At K mg "_law_lines" s__law_lines ["world"]) : DefOk P w K mg base CX0 1 "_law_lines" ["world"] (spLawLines K) := by
  refine A.ok sc__law_lines (fun vs H Q E h => ?_) (fun f cdv A outer s H vs Q E hr h => ?_)
  · obtain ⟨a, ns, rfl, _⟩ := h
    rfl
  obtain ⟨wd, W, rfl, wg, hwd, q⟩ := h
  obtain ⟨a, b, c, d, xa, xb, xc, xd, g, a1, a2, b1, b2, c1, c2, d1, d2⟩ := hwd.ex
  refine ⟨_, pss_cons (ps_set (i := 1) sc__law_lines.nd rfl (Or.inl rfl) (pe_lst (pa_cons (pe_op op_add_str pe_str (pe_callTy (call_str_int) (by rfl) B.str (by decide +kernel) (pa_cons (pe_dget (hu_of hr) (pv 0) pe_str (fun _ _ => rfl)) pa_nil))) pa_nil)))
  (pss_cons (ps_for PassesOwn.never rfl (pi_list (pe_dget (hu_of hr) (pv 0) pe_str (fun _ _ => rfl))) (pg_tup (by rfl) (pgs_cons (pg_name (i := 2) sc__law_lines.nd rfl (Or.inl rfl)) (pgs_cons (pg_name (i := 3) sc__law_lines.nd rfl (Or.inl rfl)) (pgs_cons (pg_name (i := 4) sc__law_lines.nd rfl (Or.inl rfl)) (pgs_nil)))))
      (pss_cons (ps_set (i := 5) sc__law_lines.nd rfl (Or.inl rfl) (pe_lst (pa_cons pe_str (pa_cons (pv 2) pa_nil))))
      (pss_cons (ps_for PassesOwn.never rfl (pi_range1 (by rfl) B.range (pa_cons pe_int pa_nil)) (pg_name (i := 6) sc__law_lines.nd rfl (Or.inl rfl))
          (pss_one (ps_expr (pe_bm PySem.F.plainAttrs_list PySem.F.slot_list_extend PySem.F.type_list_extend mt_extend (pv 5) (pa_cons (pe_lst (pa_cons (pe_ix ix_list (pe_lst (pa_cons pe_str (pa_cons pe_str (pa_cons pe_str (pa_cons pe_str (pa_cons pe_str (pa_cons pe_str pa_nil))))))) (pv 6) (fun _ _ => rfl)) (pa_cons (pe_callTy (call_str_int) (by rfl) B.str (by decide +kernel) (pa_cons (pe_ix ix_tup (pv 3) (pv 6) (fun _ _ => rfl)) pa_nil)) pa_nil))) pa_nil)))))
      (pss_cons (ps_expr (pe_bm PySem.F.plainAttrs_list PySem.F.slot_list_append PySem.F.type_list_append mt_append (pv 5) (pa_cons pe_str pa_nil)))
      (pss_cons (ps_for PassesOwn.never rfl (pi_tup (pv 4)) (pg_name (i := 7) sc__law_lines.nd rfl (Or.inl rfl))
          (pss_one (ps_expr (pe_bm PySem.F.plainAttrs_list PySem.F.slot_list_extend PySem.F.type_list_extend mt_extend (pv 5) (pa_cons (pe_lst (pa_cons (pe_callTy (call_str_int) (by rfl) B.str (by decide +kernel) (pa_cons (pe_ix ix_tup (pv 7) pe_int (fun _ _ => rfl)) pa_nil)) (pa_cons (pe_callTy (call_str_int) (by rfl) B.str (by decide +kernel) (pa_cons (pe_ix ix_tup (pv 7) pe_int (fun _ _ => rfl)) pa_nil)) pa_nil))) pa_nil)))))
      (pss_one (ps_expr (pe_bm PySem.F.plainAttrs_list PySem.F.slot_list_append PySem.F.type_list_append mt_append (pv 1) (pa_cons (pe_join pe_str (pv 5)) pa_nil)))))))))
  (pss_cons (ps_for PassesOwn.never rfl (pi_list (pe_dget (hu_of hr) (pv 0) pe_str (fun _ _ => rfl))) (pg_tup (by rfl) (pgs_cons (pg_name (i := 2) sc__law_lines.nd rfl (Or.inl rfl)) (pgs_cons (pg_name (i := 8) sc__law_lines.nd rfl (Or.inl rfl)) (pgs_cons (pg_name (i := 9) sc__law_lines.nd rfl (Or.inl rfl)) (pgs_nil)))))
      (pss_one (ps_expr (pe_bm PySem.F.plainAttrs_list PySem.F.slot_list_append PySem.F.type_list_append mt_append (pv 1) (pa_cons (pe_op op_add_str (pe_op op_add_str (pe_op op_add_str (pe_op op_add_str (pe_op op_add_str pe_str (pv 2)) pe_str) (pe_callTy (call_str_int) (by rfl) B.str (by decide +kernel) (pa_cons (pv 8) pa_nil))) pe_str) (pe_callTy (call_str_int) (by rfl) B.str (by decide +kernel) (pa_cons (pv 9) pa_nil))) pa_nil)))))
  (pss_cons (ps_for PassesOwn.never rfl (pi_list (pe_dget (hu_of hr) (pv 0) pe_str (fun _ _ => rfl))) (pg_tup (by rfl) (pgs_cons (pg_name (i := 2) sc__law_lines.nd rfl (Or.inl rfl)) (pgs_cons (pg_name (i := 10) sc__law_lines.nd rfl (Or.inl rfl)) (pgs_cons (pg_name (i := 3) sc__law_lines.nd rfl (Or.inl rfl)) (pgs_cons (pg_name (i := 11) sc__law_lines.nd rfl (Or.inl rfl)) (pgs_nil))))))
      (pss_cons (ps_set (i := 5) sc__law_lines.nd rfl (Or.inl rfl) (pe_lst (pa_cons pe_str (pa_cons (pv 2) (pa_cons pe_str (pa_cons (pe_ix ix_tup (pe_ix ix_list (pe_dget (hu_of hr) (pv 0) pe_str (fun _ _ => rfl)) (pv 10) (fun _ _ => rfl)) pe_int (fun _ _ => rfl)) pa_nil))))))
      (pss_cons (ps_for PassesOwn.never rfl (pi_range1 (by rfl) B.range (pa_cons pe_int pa_nil)) (pg_name (i := 6) sc__law_lines.nd rfl (Or.inl rfl))
          (pss_one (ps_expr (pe_bm PySem.F.plainAttrs_list PySem.F.slot_list_extend PySem.F.type_list_extend mt_extend (pv 5) (pa_cons (pe_lst (pa_cons (pe_ix ix_list (pe_lst (pa_cons pe_str (pa_cons pe_str (pa_cons pe_str (pa_cons pe_str (pa_cons pe_str pa_nil)))))) (pv 6) (fun _ _ => rfl)) (pa_cons (pe_callTy (call_str_int) (by rfl) B.str (by decide +kernel) (pa_cons (pe_ix ix_tup (pv 3) (pv 6) (fun _ _ => rfl)) pa_nil)) pa_nil))) pa_nil)))))
      (pss_cons (ps_for PassesOwn.never rfl (pi_range1 (by rfl) B.range (pa_cons pe_int pa_nil)) (pg_name (i := 6) sc__law_lines.nd rfl (Or.inl rfl))
          (pss_one (ps_expr (pe_bm PySem.F.plainAttrs_list PySem.F.slot_list_extend PySem.F.type_list_extend mt_extend (pv 5) (pa_cons (pe_lst (pa_cons (pe_ix ix_list (pe_lst (pa_cons pe_str (pa_cons pe_str (pa_cons pe_str pa_nil)))) (pv 6) (fun _ _ => rfl)) (pa_cons (pe_callTy (call_str_int) (by rfl) B.str (by decide +kernel) (pa_cons (pe_ix ix_tup (pv 11) (pv 6) (fun _ _ => rfl)) pa_nil)) pa_nil))) pa_nil)))))
      (pss_one (ps_expr (pe_bm PySem.F.plainAttrs_list PySem.F.slot_list_append PySem.F.type_list_append mt_append (pv 1) (pa_cons (pe_join pe_str (pv 5)) pa_nil))))))))
  (pss_cons (ps_for PassesOwn.never rfl (pi_list (pe_dget (hu_of hr) (pv 0) pe_str (fun _ _ => rfl))) (pg_tup (by rfl) (pgs_cons (pg_name (i := 2) sc__law_lines.nd rfl (Or.inl rfl)) (pgs_cons (pg_name (i := 10) sc__law_lines.nd rfl (Or.inl rfl)) (pgs_cons (pg_name (i := 12) sc__law_lines.nd rfl (Or.inl rfl)) (pgs_cons (pg_name (i := 7) sc__law_lines.nd rfl (Or.inl rfl)) (pgs_cons (pg_name (i := 3) sc__law_lines.nd rfl (Or.inl rfl)) (pgs_nil)))))))
      (pss_cons (ps_set (i := 5) sc__law_lines.nd rfl (Or.inl rfl) (pe_lst (pa_cons pe_str (pa_cons (pv 2) (pa_cons pe_str (pa_cons (pe_ix ix_tup (pe_ix ix_list (pe_dget (hu_of hr) (pv 0) pe_str (fun _ _ => rfl)) (pv 10) (fun _ _ => rfl)) pe_int (fun _ _ => rfl)) (pa_cons pe_str (pa_cons (pe_ix ix_tup (pe_ix ix_list (pe_dget (hu_of hr) (pv 0) pe_str (fun _ _ => rfl)) (pv 12) (fun _ _ => rfl)) pe_int (fun _ _ => rfl)) pa_nil))))))))
      (pss_cons (ps_expr (pe_bm PySem.F.plainAttrs_list PySem.F.slot_list_extend PySem.F.type_list_extend mt_extend (pv 5) (pa_cons (pe_lst (pa_cons pe_str (pa_cons (pe_callTy (call_str_int) (by rfl) B.str (by decide +kernel) (pa_cons (pe_ix ix_tup (pv 7) pe_int (fun _ _ => rfl)) pa_nil)) (pa_cons pe_str (pa_cons (pe_callTy (call_str_int) (by rfl) B.str (by decide +kernel) (pa_cons (pe_ix ix_tup (pv 7) pe_int (fun _ _ => rfl)) pa_nil)) pa_nil))))) pa_nil)))
      (pss_cons (ps_for PassesOwn.never rfl (pi_range1 (by rfl) B.range (pa_cons pe_int pa_nil)) (pg_name (i := 6) sc__law_lines.nd rfl (Or.inl rfl))
          (pss_one (ps_expr (pe_bm PySem.F.plainAttrs_list PySem.F.slot_list_extend PySem.F.type_list_extend mt_extend (pv 5) (pa_cons (pe_lst (pa_cons (pe_ix ix_list (pe_lst (pa_cons pe_str (pa_cons pe_str (pa_cons pe_str pa_nil)))) (pv 6) (fun _ _ => rfl)) (pa_cons (pe_callTy (call_str_int) (by rfl) B.str (by decide +kernel) (pa_cons (pe_ix ix_tup (pv 3) (pv 6) (fun _ _ => rfl)) pa_nil)) pa_nil))) pa_nil)))))
      (pss_one (ps_expr (pe_bm PySem.F.plainAttrs_list PySem.F.slot_list_append PySem.F.type_list_append mt_append (pv 1) (pa_cons (pe_join pe_str (pv 5)) pa_nil))))))))
  (pss_one (ps_ret (pv 1)))))))
    , ?_⟩
  have h80 := wg.h80
  have ho := wg.ok.horizon
  refine ⟨_, rfl, wd, _, rfl, get_h g, _, rfl, log_ok (by omega) (by omega), _, _, rfl, rfl, ?_⟩
  refine ⟨by have := num_len (n := W.horizon) (by omega) (by omega); have e : (Str.ofString "horizon ").length = 8 := (by decide +kernel); exact small (by show (Str.ofString "horizon ").length + (num W.horizon).length ≤ 1000; omega), Nat.le_trans (by decide : 1 ≤ 1000) (Nat.le_of_lt (small1000 (Nat.le_refl _))), fun L hL => ?_⟩
  have eL : (upd H L (.lst [.str ((Str.ofString "horizon " : Str) ++ Str.ofString (toString W.horizon))])) L = some (.lst (([wHor W.horizon].map row).map V.str)) := by
    rw [upd_same]
    show some (HO.lst [V.str ((Str.ofString "horizon " : Str) ++ num W.horizon)]) = _
    rw [row_hor]
    rfl
  have s1 := same_new hL (.lst [.str ((Str.ofString "horizon " : Str) ++ Str.ofString (toString W.horizon))])
  generalize (upd H L (.lst [.str ((Str.ofString "horizon " : Str) ++ Str.ofString (toString W.horizon))])) = H1 at eL s1
  -- satellites
  refine ⟨_, rfl, wd, _, rfl, get_s (s1 _ _ g), a, rfl, ⟨_, SqL.of (s1 _ _ a1)⟩, for_list (K := K) (a := a) (xs := xa) (fun i σ H' => ∃ y2 y3 y4 y5 y6 y7, σ = st13 (some (.ref wd)) (some (.ref L)) y2 y3 y4 y5 y6 y7 none none none none none ∧ Same H H' ∧ H' L = some (.lst ((([wHor W.horizon] ++ (W.sats.take i).map wSat).map row).map V.str)))
    ⟨none, none, none, none, none, none, rfl, s1, by rw [app_zero]; exact eL⟩ (fun i σ H' _ hI => ?_) (fun i x σ H' hx hI => ?_) (fun σ H' hI => ?_)⟩
  · obtain ⟨y2, y3, y4, y5, y6, y7, rfl, hs, hLL⟩ := hI
    exact SqL.of (hs _ _ a1)
  · obtain ⟨y2, y3, y4, y5, y6, y7, rfl, hs, hLL⟩ := hI
    obtain ⟨z, hz, hd⟩ := dpAll_get a2 hx
    have ok := wg.ok.sats z (List.mem_of_getElem? hz)
    obtain ⟨t, t1, t2, ls, rfl, k1, k2, k3, k4⟩ := sat_open hd
    have k1 := Same.tup hs k1
    have k2 := Same.tup hs k2
    have k3 := Same.tup hs k3
    have k4 := k4.same hs
    refine ⟨t, _, rfl, k1, rfl, ⟨_, _, rfl, _, _, rfl, _, _, rfl, rfl, ?_⟩⟩
    refine ⟨_, rfl, sz2_, fun wa hwa => ?_⟩
    have eL2 : L ≠ wa := ne_of_none hLL hwa
    have ll := ok.light.len (by omega)
    have lb := lights_lt h80 (Int.le_refl 0) ok.light
    refine kv_run (l := satKv z) (ws := [Str.ofString "satellite", z.name]) rfl (fun _ _ _ h => h) (by show 6 ≤ 10; decide) (satKv_ok ok) hwa (same_new hwa _) upd_same (by show 2 ≤ 900; decide) k2 (fun y H Q h => ⟨_, rfl, h⟩) (fun y H2 s2 hw2 => ?_)
    refine ⟨_, rfl, .inl ⟨rfl, _, SqL.of hw2⟩, wa, _, _, rfl, rfl, hw2, (by rw [List.length_map]; exact small1000 (by show 14 ≤ 1000; decide)), ?_⟩
    refine light_run (l := z.light) (ws := [Str.ofString "satellite", z.name] ++ flat (satKv z) ++ [Str.ofString "light"]) (by omega) lb hwa (same_at hwa s2 _) (by rw [upd_same]; rfl) (by show 15 ≤ 15; decide) k3 k4 (by omega) (fun y' H3 s3 hw3 => ?_)
    have hl3 := s3 _ _ hLL
    rw [wSat_eq] at hw3
    have okw := wSat_wd ho.2 ok
    refine ⟨_, rfl, .inl ⟨rfl, _, SqL.of hl3⟩, ⟨_, rfl⟩, _, rfl, _, wa, _, rfl, rfl, .inl (SqL.of hw3), join_fits okw (by rw [← wSat_eq, List.length_append, lightW_len]; show 15 + _ ≤ _; omega), L, _, _, rfl, rfl, hl3, app_len (n := 1) (Nat.le_refl 1) (by have := wg.ok.nSats; omega) (by decide), ?_⟩
    refine ⟨_, _, _, _, _, _, rfl, same_at hL (hs.trans s3) _, ?_⟩
    rw [upd_same, join_sp, app_step hz]
  obtain ⟨y2, y3, y4, y5, y6, y7, rfl, hs1, hL1⟩ := hI
  rw [dpAll_len a2, List.length_map, List.take_length, show [wHor W.horizon] ++ W.sats.map wSat = done1 W from rfl] at hL1
  have n1 : (done1 W).length ≤ 4 := by
    show ([wHor W.horizon] ++ W.sats.map wSat).length ≤ 4
    rw [List.length_append, List.length_map]
    have := wg.ok.nSats
    show 1 + _ ≤ 4
    omega
  clear s1 eL
  -- stations
  refine ⟨_, rfl, wd, _, rfl, get_t (hs1 _ _ g), b, rfl, ⟨_, SqL.of (hs1 _ _ b1)⟩, for_list (K := K) (a := b) (xs := xb) (fun i σ H' => ∃ y2 y3 y4 y5 y6 y7 y8 y9, σ = st13 (some (.ref wd)) (some (.ref L)) y2 y3 y4 y5 y6 y7 y8 y9 none none none ∧ Same H H' ∧ H' L = some (.lst (((done1 W ++ (W.stas.take i).map wSta).map row).map V.str)))
    ⟨y2, y3, y4, y5, y6, y7, none, none, rfl, hs1, by rw [app_zero]; exact hL1⟩ (fun i σ H' _ hI => ?_) (fun i x σ H' hx hI => ?_) (fun σ H2 hI => ?_)⟩
  · obtain ⟨y2, y3, y4, y5, y6, y7, y8, y9, rfl, hs, hLL⟩ := hI
    exact SqL.of (hs _ _ b1)
  · obtain ⟨y2, y3, y4, y5, y6, y7, y8, y9, rfl, hs, hLL⟩ := hI
    obtain ⟨z, hz, hd⟩ := dpAll_get b2 hx
    have ok := wg.ok.stas z (List.mem_of_getElem? hz)
    obtain ⟨t, rfl, k1⟩ := sta_open hd
    have k1 := Same.tup hs k1
    have l1 : (Str.ofString "station " : Str).length ≤ 8 := by decide +kernel
    have l2 := len_add l1 (name_len ok.name)
    have l3 := len_add l2 (show (Str.ofString " antennas " : Str).length ≤ 10 by decide +kernel)
    have l4 := len_add l3 (num_len (n := z.antennas) (by have := ok.antennas; omega) (by have := ok.antennas; omega))
    have l5 := len_add l4 (show (Str.ofString " turn " : Str).length ≤ 6 by decide +kernel)
    have l6 := num_len (n := z.turn) (by have := ok.turn; omega) (by have := ok.turn; omega)
    refine ⟨t, _, rfl, k1, rfl, ⟨_, _, rfl, _, _, rfl, _, _, rfl, rfl, ?_⟩⟩
    refine ⟨_, rfl, .inl ⟨rfl, _, SqL.of hLL⟩, _, rfl, _, _, rfl, rfl, add_fits l1 (name_len ok.name) (by decide), _, _, rfl, rfl, add_fits l2 (show (Str.ofString " antennas " : Str).length ≤ 10 by decide +kernel) (by decide), _, rfl, _, rfl, log_ok (by have := ok.antennas; omega) (by have := ok.antennas; omega),
      _, _, rfl, rfl, add_fits l3 (num_len (n := z.antennas) (by have := ok.antennas; omega) (by have := ok.antennas; omega)) (by decide), _, _, rfl, rfl, add_fits l4 (show (Str.ofString " turn " : Str).length ≤ 6 by decide +kernel) (by decide), _, rfl, _, rfl, log_ok (by have := ok.turn; omega) (by have := ok.turn; omega), _, _, rfl, rfl, add_fits l5 l6 (by decide),
      L, _, _, rfl, rfl, hLL, app_len n1 (by have := wg.ok.nStas; omega) (by decide), ?_⟩
    refine ⟨_, _, _, _, _, _, _, _, rfl, same_at hL hs _, ?_⟩
    rw [upd_same, show (Str.ofString "station " ++ z.name ++ Str.ofString " antennas " ++ Str.ofString (toString z.antennas) ++ Str.ofString " turn " ++ Str.ofString (toString z.turn) : Str) = row (wSta z) from row_sta z, app_step hz]
  obtain ⟨y2, y3, y4, y5, y6, y7, y8, y9, rfl, hs2, hL2⟩ := hI
  rw [dpAll_len b2, List.length_map, List.take_length, show done1 W ++ W.stas.map wSta = done2 W from rfl] at hL2
  have n2 : (done2 W).length ≤ 7 := by
    show (done1 W ++ W.stas.map wSta).length ≤ 7
    rw [List.length_append, List.length_map]
    have := wg.ok.nStas
    omega
  clear hs1 hL1
  -- recordings
  refine ⟨_, rfl, wd, _, rfl, get_r (hs2 _ _ g), c, rfl, ⟨_, SqL.of (hs2 _ _ c1)⟩, for_list (K := K) (a := c) (xs := xc) (fun i σ H' => ∃ y2 y3 y4 y5 y6 y7 y8 y9 y10 y11, σ = st13 (some (.ref wd)) (some (.ref L)) y2 y3 y4 y5 y6 y7 y8 y9 y10 y11 none ∧ Same H H' ∧ H' L = some (.lst (((done2 W ++ (W.recs.take i).map (wRec W)).map row).map V.str)))
    ⟨y2, y3, y4, y5, y6, y7, y8, y9, none, none, rfl, hs2, by rw [app_zero]; exact hL2⟩ (fun i σ H' _ hI => ?_) (fun i x σ H' hx hI => ?_) (fun σ H3 hI => ?_)⟩
  · obtain ⟨y2, y3, y4, y5, y6, y7, y8, y9, y10, y11, rfl, hs, hLL⟩ := hI
    exact SqL.of (hs _ _ c1)
  · obtain ⟨y2, y3, y4, y5, y6, y7, y8, y9, y10, y11, rfl, hs, hLL⟩ := hI
    obtain ⟨z, hz, hd⟩ := dpAll_get c2 hx
    have ok := wg.ok.recs z (List.mem_of_getElem? hz)
    obtain ⟨t, t1, t2, rfl, k1, k2, k3⟩ := rec_open hd
    have k1 := Same.tup hs k1
    have k2 := Same.tup hs k2
    have k3 := Same.tup hs k3
    obtain ⟨xS, eS, dS⟩ := dpAll_get2 a2 (List.getElem?_eq_getElem ok.sat)
    obtain ⟨tS, tS1, tS2, lS, rfl, m1, _, _, _⟩ := sat_open dS
    have m1 := Same.tup hs m1
    rw [← satN_of (List.getElem?_eq_getElem ok.sat)] at m1
    refine ⟨t, _, rfl, k1, rfl, ⟨_, _, rfl, _, _, rfl, _, _, rfl, _, _, rfl, rfl, ?_⟩⟩
    refine ⟨_, rfl, _, rfl, wd, _, rfl, get_s (hs _ _ g), _, rfl, a, _, _, _, rfl, rfl, SqL.of (hs _ _ a1), atI_nat eS, tS, _, 0, _, rfl, rfl, m1, rfl, sz4_, fun wa hwa => ?_⟩
    have eL2 : L ≠ wa := ne_of_none hLL hwa
    refine kv_run (l := recKv z) (ws := [Str.ofString "recording", z.name, Str.ofString "by", satN W z.sat]) rfl (fun _ _ _ h => h) (by show 5 ≤ 10; decide) (recKv_ok h80 ok) hwa (same_new hwa _) upd_same (by show 4 ≤ 900; decide) k2 (fun y H Q h => ⟨_, rfl, h⟩) (fun y H4 s4 hw4 => ?_)
    refine kv_run (l := recKu z) (ws := [Str.ofString "recording", z.name, Str.ofString "by", satN W z.sat] ++ flat (recKv z)) rfl (fun _ _ _ h => h) (by show 3 ≤ 10; decide) (recKu_ok h80 ok) hwa s4 hw4 (by show 14 ≤ 900; decide) k3 (fun y H Q h => ⟨_, rfl, h⟩) (fun y H5 s5 hw5 => ?_)
    have hl5 := s5 _ _ hLL
    rw [wRec_eq] at hw5
    have okw := wRec_wd wg.ok ok
    refine ⟨_, rfl, .inl ⟨rfl, _, SqL.of hl5⟩, ⟨_, rfl⟩, _, rfl, _, wa, _, rfl, rfl, .inl (SqL.of hw5), join_fits okw (by show 20 ≤ 1015; decide), L, _, _, rfl, rfl, hl5, app_len n2 (by have := wg.ok.nRecs; omega) (by decide), ?_⟩
    refine ⟨_, _, _, _, _, _, _, _, _, _, rfl, same_at hL (hs.trans s5) _, ?_⟩
    rw [upd_same, join_sp, app_step hz]
  obtain ⟨y2, y3, y4, y5, y6, y7, y8, y9, y10, y11, rfl, hs3, hL3⟩ := hI
  rw [dpAll_len c2, List.length_map, List.take_length, show done2 W ++ W.recs.map (wRec W) = done3 W from rfl] at hL3
  have n3 : (done3 W).length ≤ 17 := by
    show (done2 W ++ W.recs.map (wRec W)).length ≤ 17
    rw [List.length_append, List.length_map]
    have := wg.ok.nRecs
    omega
  clear hs2 hL2
  -- passes
  refine ⟨_, rfl, wd, _, rfl, get_p (hs3 _ _ g), d, rfl, ⟨_, SqL.of (hs3 _ _ d1)⟩, for_list (K := K) (a := d) (xs := xd) (fun i σ H' => ∃ y2 y3 y4 y5 y6 y7 y8 y9 y10 y11 y12, σ = st13 (some (.ref wd)) (some (.ref L)) y2 y3 y4 y5 y6 y7 y8 y9 y10 y11 y12 ∧ Same H H' ∧ H' L = some (.lst (((done3 W ++ (W.pass.take i).map (wPas W)).map row).map V.str)))
    ⟨y2, y3, y4, y5, y6, y7, y8, y9, y10, y11, none, rfl, hs3, by rw [app_zero]; exact hL3⟩ (fun i σ H' _ hI => ?_) (fun i x σ H' hx hI => ?_) (fun σ H4 hI => ?_)⟩
  · obtain ⟨y2, y3, y4, y5, y6, y7, y8, y9, y10, y11, y12, rfl, hs, hLL⟩ := hI
    exact SqL.of (hs _ _ d1)
  · obtain ⟨y2, y3, y4, y5, y6, y7, y8, y9, y10, y11, y12, rfl, hs, hLL⟩ := hI
    obtain ⟨z, hz, hd⟩ := dpAll_get d2 hx
    have ok := wg.ok.pass z (List.mem_of_getElem? hz)
    obtain ⟨t, t1, t2, rfl, k1, k2, k3⟩ := pas_open hd
    have k1 := Same.tup hs k1
    have k2 := Same.tup hs k2
    have k3 := Same.tup hs k3
    obtain ⟨xS, eS, dS⟩ := dpAll_get2 a2 (List.getElem?_eq_getElem ok.sat)
    obtain ⟨tS, tS1, tS2, lS, rfl, m1, _, _, _⟩ := sat_open dS
    have m1 := Same.tup hs m1
    rw [← satN_of (List.getElem?_eq_getElem ok.sat)] at m1
    obtain ⟨xT, eT, dT⟩ := dpAll_get2 b2 (List.getElem?_eq_getElem ok.sta)
    obtain ⟨tT, rfl, m2⟩ := sta_open dT
    have m2 := Same.tup hs m2
    rw [← staN_of (List.getElem?_eq_getElem ok.sta)] at m2
    have f0 : 0 ≤ z.first ∧ z.first < 10000000 := by have := ok.first; omega
    have f1 : 0 ≤ z.fin ∧ z.fin < 10000000 := by have := ok.first; have := ok.fin; omega
    refine ⟨t, _, rfl, k1, rfl, ⟨_, _, rfl, _, _, rfl, _, _, rfl, _, _, rfl, _, _, rfl, rfl, ?_⟩⟩
    refine ⟨_, rfl, _, rfl, wd, _, rfl, get_s (hs _ _ g), _, rfl, a, _, _, _, rfl, rfl, SqL.of (hs _ _ a1), atI_nat eS, tS, _, 0, _, rfl, rfl, m1, rfl, _, rfl, wd, _, rfl, get_t (hs _ _ g), _, rfl, b, _, _, _, rfl, rfl, SqL.of (hs _ _ b1), atI_nat eT, tT, _, 0, _, rfl, rfl, m2, rfl, sz6_, fun wa hwa => ?_⟩
    have eL2 : L ≠ wa := ne_of_none hLL hwa
    have sw := same_new hwa (.lst ([Str.ofString "pass", z.name, Str.ofString "by", satN W z.sat, Str.ofString "over", staN W z.sta].map V.str))
    refine ⟨_, rfl, .inl ⟨rfl, _, SqL.of upd_same⟩, _, rfl, t1, _, 0, _, rfl, rfl, Same.tup sw k2, rfl, _, rfl, log_ok f0.1 f0.2, _, rfl, t1, _, 1, _, rfl, rfl, Same.tup sw k2, rfl, _, rfl, log_ok f1.1 f1.2, sz4_, fun wb hwb => ?_⟩
    have sx := same_new hwb (.lst ([Str.ofString "from", num z.first, Str.ofString "to", num z.fin].map V.str))
    refine ⟨wa, wb, _, _, rfl, rfl, sx _ _ upd_same, upd_same, sz10_, ?_⟩
    refine kv_run (l := pasKv z) (ws := [Str.ofString "pass", z.name, Str.ofString "by", satN W z.sat, Str.ofString "over", staN W z.sta] ++ [Str.ofString "from", num z.first, Str.ofString "to", num z.fin]) rfl (fun _ _ _ h => h) (by show 3 ≤ 10; decide) (pasKv_ok ok) hwa (same_at hwa (sw.trans sx) _) upd_same (by show 10 ≤ 900; decide) k3 (fun y H Q h => ⟨_, rfl, h⟩) (fun y H5 s5 hw5 => ?_)
    have hl5 := s5 _ _ hLL
    rw [wPas_eq] at hw5
    have okw := wPas_wd wg.ok ok
    refine ⟨_, rfl, .inl ⟨rfl, _, SqL.of hl5⟩, ⟨_, rfl⟩, _, rfl, _, wa, _, rfl, rfl, .inl (SqL.of hw5), join_fits okw (by show 16 ≤ 1015; decide), L, _, _, rfl, rfl, hl5, app_len n3 (by have := wg.ok.nPass; omega) (by decide), ?_⟩
    refine ⟨_, _, _, _, _, _, _, _, _, _, _, rfl, same_at hL (hs.trans s5) _, ?_⟩
    rw [upd_same, join_sp, app_step hz]
  obtain ⟨y2, y3, y4, y5, y6, y7, y8, y9, y10, y11, y12, rfl, hs4, hL4⟩ := hI
  rw [dpAll_len d2, List.length_map, List.take_length, show done3 W ++ W.pass.map (wPas W) = done4 W from rfl, done4_eq] at hL4
  exact ⟨_, rfl, q L _ hs4 hL hL4⟩
end
end DP
namespace DP
open PySem PySem.Spec PyProof.Rows L2
section
variable {P : Program} {w : World} {K : PySem.W.Frag} {mg : Str → Option Value} {base : Heap}
theorem fit_big {n : Nat} (h : n ≤ 17256) : n ≤ sizeLine := Nat.le_trans h (by unfold sizeLine; decide)
def spLawText (K : PySem.W.Frag) : Sp := fun vs H Q _ => ∃ (wd : Addr) (W : WorldD), vs = [.ref wd] ∧ WG W ∧ WdAt K H wd W ∧ ∀ H', Same H H' → Q (.str (textW W)) H'
set_option maxHeartbeats 8000000 in
theorem d_law_text (B : Bt mg) (D_law_lines : DefOk P w K mg base CX0 1 "_law_lines" ["world"] (spLawLines K)) (A : At K mg "_law_text" s__law_text ["world"]) : DefOk P w K mg base CX0 2 "_law_text" ["world"] (spLawText K) := by
  refine A.ok sc__law_text (fun vs H Q E h => ?_) (fun f cdv A outer s H vs Q E hr h => ?_)
  · obtain ⟨a, ns, rfl, _⟩ := h
    rfl
  obtain ⟨wd, W, rfl, wg, hwd, q⟩ := h
  refine ⟨_, pss_one (ps_ret (pe_join pe_str (pe_lc (own := [("line", 1)])  rfl sc__law_text.nd (pi_list (pe_f D_law_lines (hr.mono (by omega)) pass0 (pa_cons (pv 0) pa_nil))) (blkOk_by (own := [("line", 1)]) (N := ["world", "line"]) (sc := defScope s__law_text) (by decide +kernel)) (fun _ _ _ _ _ => pg_name (i := 1) sc__law_text.nd rfl (Or.inl rfl)) (fun _ _ _ _ _ => pts_nil) (fun _ _ _ _ _ => (pe_op op_add_str (pv 1) pe_str)))))
    , ?_⟩
  have lok : ∀ r ∈ (linesW W).map row, r.length ≤ 1015 * 17 := fun r hr => by
    obtain ⟨l, hl, rfl⟩ := List.mem_map.mp hr
    obtain ⟨_, h2, h3⟩ := linesW_ok wg.ok l hl
    exact Nat.le_trans (row_len h2) (Nat.mul_le_mul_right _ h3)
  have lln := linesW_len wg.ok
  obtain ⟨rows, er⟩ : ∃ r, (linesW W).map row = r := ⟨_, rfl⟩
  have lrw : rows.length ≤ 27 := by rw [← er, List.length_map]; exact lln
  have gq : Txt.join (Str.ofString "") (rows.map fun r => r ++ nl) = textW W := by
    rw [show (Str.ofString "" : Str) = Str.empty from rfl, join_nl, ← er]
    rfl
  rw [er] at lok
  refine ⟨⟨_, rfl⟩, _, rfl, wd, W, rfl, wg, hwd, fun L H1 s1 hL0 hL => ?_⟩
  rw [er] at hL
  refine ⟨L, rfl, ⟨_, SqL.of hL⟩, fun D hD => ?_⟩
  refine lc_list (K := K) (a := L) (xs := rows.map V.str) (fun i H' => Same H1 H' ∧ H' D = some (.lst (((rows.take i).map fun r => r ++ nl).map V.str))) ⟨same_new hD _, upd_same⟩ (fun i H' _ h => h.1.seq (SqL.of hL)) (fun i x H2 hx hI => ?_) (fun H2 hI => ?_)
  · obtain ⟨hs, hDD⟩ := hI
    rw [List.getElem?_map] at hx
    cases e : rows[i]? with
    | none => rw [e] at hx; cases hx
    | some r =>
      rw [e] at hx
      have ex : V.str r = x := Option.some.inj hx
      subst ex
      have hr1 := lok r (List.mem_of_getElem? e)
      have nl1 : (Str.ofString "\n" : Str).length ≤ 1 := by decide +kernel
      refine ⟨rfl, _, rfl, _, _, rfl, rfl, fit_big (by omega), _, hDD, ?_, same_at hD hs _, ?_⟩
      · rw [List.length_map, List.length_map, List.length_take]
        exact small1000 (by omega)
      · rw [upd_same, take_snoc e]
        simp only [List.map_append, List.map_cons, List.map_nil]
        rfl
  · obtain ⟨hs, hDD⟩ := hI
    rw [List.length_map, List.take_length] at hDD
    refine ⟨_, D, _, rfl, rfl, .inl (SqL.of hDD), ?_, ?_⟩
    · have b : ∀ l : List Str, (∀ r ∈ l, r.length ≤ 1015 * 17) → ((l.map fun r => r ++ nl).map fun x => x.length).sum ≤ 17256 * l.length := fun l => by
        induction l with
        | nil => exact fun _ => Nat.zero_le _
        | cons x r ih =>
          intro hl
          have h1 := ih fun z hz => hl z (List.mem_cons_of_mem _ hz)
          have h2 := len_add (hl x List.mem_cons_self) (show nl.length ≤ 1 by decide +kernel)
          simp only [List.map_cons, List.sum_cons, List.length_cons]
          omega
      have := b rows lok
      rw [show (Str.ofString "" : Str).length = 0 from rfl]
      omega
    · rw [gq]
      exact q H2 (s1.trans hs)
end
end DP
namespace DP
open PySem PySem.Spec PyProof.Rows L2
theorem lk_Station_antennas {s : StaD} : List.lookup ("antennas" : Str) (staF s) = some (.int s.antennas : V) := by unfold staF; repeat (first | exact lk_hit | rw [lk_miss (by decide +kernel)])
theorem lk_Recording_satellite {r : RecD} : List.lookup ("satellite" : Str) (recF r) = some (.int (r.sat : Int) : V) := by unfold recF; repeat (first | exact lk_hit | rw [lk_miss (by decide +kernel)])
theorem lk_Recording_earliest {r : RecD} : List.lookup ("earliest" : Str) (recF r) = some (.int r.earliest : V) := by unfold recF; repeat (first | exact lk_hit | rw [lk_miss (by decide +kernel)])
theorem lk_Recording_latest {r : RecD} : List.lookup ("latest" : Str) (recF r) = some (.int r.latest : V) := by unfold recF; repeat (first | exact lk_hit | rw [lk_miss (by decide +kernel)])
theorem lk_Recording_length {r : RecD} : List.lookup ("length" : Str) (recF r) = some (.int r.length : V) := by unfold recF; repeat (first | exact lk_hit | rw [lk_miss (by decide +kernel)])
theorem lk_Recording_worth {r : RecD} : List.lookup ("worth" : Str) (recF r) = some (.int r.worth : V) := by unfold recF; repeat (first | exact lk_hit | rw [lk_miss (by decide +kernel)])
theorem lk_Recording_rank {r : RecD} : List.lookup ("rank" : Str) (recF r) = some (.int r.rank : V) := by unfold recF; repeat (first | exact lk_hit | rw [lk_miss (by decide +kernel)])
theorem lk_Recording_deadline {r : RecD} : List.lookup ("deadline" : Str) (recF r) = some (.int r.deadline : V) := by unfold recF; repeat (first | exact lk_hit | rw [lk_miss (by decide +kernel)])
theorem lk_Pass_satellite {p : PasD} {t : Addr} : List.lookup ("satellite" : Str) (pasF p t) = some (.int (p.sat : Int) : V) := by unfold pasF; repeat (first | exact lk_hit | rw [lk_miss (by decide +kernel)])
theorem lk_Pass_station {p : PasD} {t : Addr} : List.lookup ("station" : Str) (pasF p t) = some (.int (p.sta : Int) : V) := by unfold pasF; repeat (first | exact lk_hit | rw [lk_miss (by decide +kernel)])
theorem lk_Pass_span {p : PasD} {t : Addr} : List.lookup ("span" : Str) (pasF p t) = some (.ref t : V) := by unfold pasF; repeat (first | exact lk_hit | rw [lk_miss (by decide +kernel)])
theorem lk_Pass_fee {p : PasD} {t : Addr} : List.lookup ("fee" : Str) (pasF p t) = some (.int p.fee : V) := by unfold pasF; repeat (first | exact lk_hit | rw [lk_miss (by decide +kernel)])
theorem lk_World_stations {u : Str} {h : Int} {t0 t1 t2 t3 : Addr} : List.lookup ("stations" : Str) (worF u h t0 t1 t2 t3) = some (.ref t1 : V) := by unfold worF; repeat (first | exact lk_hit | rw [lk_miss (by decide +kernel)])
theorem lk_World_recordings {u : Str} {h : Int} {t0 t1 t2 t3 : Addr} : List.lookup ("recordings" : Str) (worF u h t0 t1 t2 t3) = some (.ref t2 : V) := by unfold worF; repeat (first | exact lk_hit | rw [lk_miss (by decide +kernel)])
theorem lk_World_passes {u : Str} {h : Int} {t0 t1 t2 t3 : Addr} : List.lookup ("passes" : Str) (worF u h t0 t1 t2 t3) = some (.ref t3 : V) := by unfold worF; repeat (first | exact lk_hit | rw [lk_miss (by decide +kernel)])
theorem fit_cons {n : Nat} {d : PyData} {ds : List PyData} (h : Fit n d) (t : ∀ x ∈ ds, Fit n x) : ∀ x ∈ d :: ds, Fit n x := fun x hx => by
  rcases List.mem_cons.mp hx with rfl | hx
  · exact h
  · exact t x hx
theorem fit_nil {n : Nat} : ∀ x ∈ ([] : List PyData), Fit n x := fun _ h => absurd h List.not_mem_nil
theorem fit_int {n : Nat} {i : Int} : Fit (n + 1) (.int i) := True.intro
theorem fit_tup {n : Nat} {ds : List PyData} (h : ds.length ≤ 1000) (t : ∀ x ∈ ds, Fit n x) : Fit (n + 1) (.tuple ds) := ⟨h, t⟩
theorem fit_map {n : Nat} {α : Type} {f : α → PyData} {l : List α} (h : ∀ a ∈ l, Fit n (f a)) : ∀ x ∈ l.map f, Fit n x := fun x hx => by
  obtain ⟨a, ha, rfl⟩ := List.mem_map.mp hx
  exact h a ha
end DP
namespace DP
open PySem PySem.Spec PyProof.Rows L2
/-- the tuple at a, each item in a new pair with its place -/
def IteT (K : PySem.W.Frag) (a : Addr) (k : Int) : It :=
  ⟨fun i H => ∃ (xs : List V) (x : V), SqT K H a xs ∧ xs[i]? = some x,
   fun i H v H' => ∃ T x, v = .ref T ∧ H T = none ∧ H' = upd H T (.tup [.int (k + (i : Nat)), x]) ∧ ∀ xs, SqT K H a xs → xs[i]? = some x,
   fun i H => ∃ xs : List V, SqT K H a xs ∧ xs.length ≤ i⟩
theorem tup_not_iter {h : Heap} {a it : Addr} {its : Array Value} {i : Nat} (l : h.IsTuple a its) (r : h.IsTupleIter it a i) : a ≠ it := fun z => by
  obtain ⟨o, ho, hc, _⟩ := l
  obtain ⟨o', ho', hc', _⟩ := r
  rw [z, ho'] at ho
  cases ho
  rw [hc] at hc'
  exact absurd hc' (by decide)
theorem turn_enumT {P : Program} {w : World} {K : PySem.W.Frag} {elts : List Expr} {kk : Nat} {tpos : Pos} (a en it : Addr) (k : Int) :
    Turn P w K (.Tuple elts kk tpos) (IteT K a k) [en, it] en (fun i h => (∃ old, IsEnum h en it (k + ((i : Nat) : Int)) old) ∧ h.IsTupleIter it a i ∧ en ≠ it) where
  mem := by simp
  obj := fun i h st b hb => by
    obtain ⟨⟨old, hen⟩, ⟨o, ho, hc, hd⟩, _⟩ := st
    have two : b = en ∨ b = it := by simpa using hb
    rcases two with z | z
    · subst z
      exact ⟨_, hen, fun v q => nomatch q⟩
    · subst z
      exact ⟨o, ho, fun v q => by rw [hd] at q; cases q⟩
  keep := fun i h h' st kp => by
    obtain ⟨⟨old, hen⟩, hi, hne⟩ := st
    exact ⟨⟨old, kp en (by simp) _ hen⟩, hi.at fun o q => kp it (by simp) o q, hne⟩
  item := by
    intro X hP hw hK hc i pins s σ H E I hf st hg
    subst hP hw hK
    obtain ⟨⟨old, hen⟩, hit, hne⟩ := st
    obtain ⟨xs, x, hq, hx⟩ := hg
    obtain ⟨its, rv, p0, hz⟩ := I.tuple hq
    have pl : s.heap.IsTuple a its.toArray := p0
    obtain ⟨u, hu, ru⟩ := rv.get hx
    have en_lt : en < s.heap.objs.size := Heap.lt_size hen
    have it_lt : it < s.heap.objs.size := by
      obtain ⟨_, q, _⟩ := hit
      exact Heap.lt_size q
    have nel := tup_not_iter pl hit
    have Dr := Draws.tuple (prog := X.prog) (w := X.w) (A := X.A.in1) (I.ok.hd hc) it a nel its.toArray
    have hi : i < its.toArray.size := by
      have := (List.getElem?_eq_some_iff.mp hu).1
      simpa using this
    by_cases ea : en = a
    · exfalso
      obtain ⟨o, ho, hc', _⟩ := pl
      rw [← ea, hen] at ho
      cases ho
      have e : Value.type "enumerate" = Value.type "tuple" := hc'
      exact absurd e (by decide)
    refine wpAny_pyNext_enum_itemC Dr hen ⟨hit, pl⟩ hi hne (by simp [hne, ea]) fun x' h' tk hP ho hit' hT hsz hk => ?_
    have ex : x' = u := by
      have e1 : its.toArray[i]? = some x' := hP
      have e2 : its.toArray[i]? = some u := by simpa using hu
      exact Option.some.inj (e1.symm.trans e2)
    subst ex
    refine ⟨_, rfl, wpAny_letOwnedTupleGo_enum (s := { s with heap := h', toks := tk + 1 }) ho fun h2 hen2 sb => ?_⟩
    have hT2 : h2.get? s.heap.objs.size = some { cls := .type "tuple", data := .seq #[.int (k + (i : Int)) tk, x'] } :=
      (sb.2 _ (Nat.ne_of_gt en_lt)).trans hT
    have fresh : H s.heap.objs.size = none := I.hok.fresh (Nat.le_refl _)
    have new : ObjOk X.prog X.w (upd H s.heap.objs.size (.tup [.int (k + (i : Nat)), x])) h2 s.heap.objs.size (.tup [.int (k + (i : Nat)), x]) :=
      ⟨(by show 2 ≤ sizeLine; decide), [.int (k + (i : Int)) tk, x'], .cons ⟨_, rfl⟩ (.cons ru .nil), ⟨_, hT2, rfl, _, rfl⟩⟩
    have keepAll : ∀ b ob, b ∉ [en, it] → s.heap.get? b = some ob → h2.get? b = some ob := fun b ob hb q => by
      have n1 : b ≠ en := fun z => hb (by simp [z])
      have n2 : b ≠ it := fun z => hb (by simp [z])
      exact (sb.2 b n1).trans (hk b ob n1 n2 q)
    have I1 := I.turnedNew (t' := tk + 1) (ch := [en, it]) keepAll hf (Nat.le_refl _) new
    refine ⟨.ref s.heap.objs.size, _, I1, rfl, ⟨_, x, rfl, fresh, rfl, fun ys hy => ?_⟩, ⟨⟨x', ?_⟩, ?_, hne⟩, fun b hb => ?_⟩
    · rw [I.tuple_inj hy hq]
      exact hx
    · have e1 : k + ((i + 1 : Nat) : Int) = k + (i : Int) + 1 := by omega
      rw [e1]
      exact hen2
    · exact hit'.1.at fun o q => (sb.2 it (Ne.symm hne)).trans q
    · have hb' : b < s.heap.objs.size := by
        have two : b = en ∨ b = it := by simpa using hb
        rcases two with z | z
        · rw [z]; exact en_lt
        · rw [z]; exact it_lt
      rw [upd_ne (Nat.ne_of_lt hb')]
      exact (hf b hb).1
  done := by
    intro X hP hw hK hc i pins s σ H E I hf st hg
    subst hP hw hK
    obtain ⟨⟨old, hen⟩, hit, hne⟩ := st
    obtain ⟨xs, hq, hx⟩ := hg
    obtain ⟨its, rv, p0, hz⟩ := I.tuple hq
    have pl : s.heap.IsTuple a its.toArray := p0
    have hl := rv.length
    obtain ⟨f0, f1, f2, f3, f4, f5⟩ := hf it (by simp)
    have hT : s.TypeIs (.ref en) "enumerate" := ⟨_, hen, rfl⟩
    unfold pyNext
    refine wpAny_bind (wpAny_attempt (wpAny_callSpecial?_slot (name := Str.ofString "__next__") hT F.slot_enumerate_next
      (wpAny_call_entry F.slot_enumerate_next hT F.entry_enumerate_next ?_
        (F.args_enumerate_next_1 _))))
    show wpAny _ _ (field (.ref en) 2 >>= _) _ _ _
    refine wpAny_bind (wpAny_field hen rfl (x := .ref it) rfl ?_)
    refine wpAny_bind (wpAny_nextOf_tuple_end (I.ok.hd hc) hit pl (by simp; omega) fun h' e eb hcl => ?_)
    obtain ⟨o, ho, hcs⟩ := hcl
    refine wpAny_bind (wpAny_isInstance (T := "StopIteration") (b := true) ⟨o, ho, hcs⟩ isSubtype_stop ?_)
    exact wpAny_pure ⟨rfl, I.turned (t' := s.toks) (fun b o hb q => eb b o hb q) f0 f1 f3 f4 f5⟩
  self := fun A i s Q E st h => let ⟨⟨_, hen⟩, _⟩ := st; wpAny_pyIter_enum hen h
theorem meets_enum1 {v : Value} {o : Obj} {H : Heap → Prop} (B : Begins v o H) :
    Meets (Builtin.«enumerate.__new__» ⟨[.type "enumerate", v], []⟩) (fun _ R s => H s.heap ∧
      R (.ok (.ret (.ref (s.heap.push o).objs.size))) { s with heap := (s.heap.push o).push { cls := .type "enumerate", data := .fields #[.none, .bool false, .ref s.heap.objs.size, rawInt 0, .none, .none] } }) :=
  .of_wp fun prog w A R s h => by
    obtain ⟨hp, g, d, tk, os⟩ := s
    obtain ⟨h1, h⟩ := h
    have hsub := sub_enumerate
    have q1 : ∀ {A' : Around} {E : Value → Shared → Prop} {Q : Value → Shared → Prop}, Q (.ref hp.objs.size) ⟨hp.push o, g, d, tk, os⟩ → wpAny (model prog w) A' (pyIter v) Q E ⟨hp, g, d, tk, os⟩ :=
      fun q => B.iter prog w _ _ ⟨hp, g, d, tk, os⟩ _ h1 q
    wp_walk using q1
    refine wpAny_stack_any fun st => wpAny_pure ?_
    split
    · rename_i c _ _ _ _ _
      cases (c == Value.type "enumerate")
      · wp_walk using q1
        exact ⟨_, rfl, h⟩
      · wp_walk using q1
        exact ⟨_, rfl, h⟩
    · wp_walk using q1
      exact ⟨_, rfl, h⟩
theorem enum_begins1 {prog : Program} {w : World} {A : Around} {E : Value → Shared → Prop} {s : Shared} {v : Value} {o : Obj} {H : Heap → Prop} {Q : Value → Shared → Prop} (B : Begins v o H) (h1 : H s.heap)
    (h : ∀ h', IsEnum h' (s.heap.objs.size + 1) s.heap.objs.size 0 .none → h'.get? s.heap.objs.size = some o → (∀ b o, s.heap.get? b = some o → h'.get? b = some o) → Q (.ref (s.heap.objs.size + 1)) { s with heap := h' }) :
    wpAny (model prog w) A (call (.type "enumerate") [v]) Q E s := by
  refine callType_new F.called_enumerate (by decide) (F.typeCall_enumerate_1 _) (F.newCall_enumerate_1 _) (fun obj => F.args_object_init_2 obj _) F.entry_enumerate_new (meets_enum1 B) ⟨h1, ?_⟩
  have hz : (s.heap.push o).objs.size = s.heap.objs.size + 1 := Heap.size_push ..
  show _ ∧ _
  rw [hz]
  have hen : IsEnum ((s.heap.push o).push { cls := .type "enumerate", data := .fields #[.none, .bool false, .ref s.heap.objs.size, rawInt 0, .none, .none] }) (s.heap.objs.size + 1) s.heap.objs.size 0 .none := by
    have z := Heap.get?_push_size (s.heap.push o) (o := { cls := .type "enumerate", data := .fields #[.none, .bool false, .ref s.heap.objs.size, rawInt 0, .none, .none] }) rfl
    rw [hz] at z
    exact z
  exact ⟨⟨_, hen, rfl⟩, h _ hen (Heap.get?_push_of_some _ (Heap.get?_push_size _ B.free)) fun b o x => Heap.get?_push_of_some _ (Heap.get?_push_of_some _ x)⟩
def iEnumT (K : PySem.W.Frag) (ta : TA) : TI := fun σ H R => ta σ H fun vs H1 => ∃ a xs, vs = [.ref a] ∧ SqT K H1 a xs ∧ R (IteT K a 0) H1
theorem pi_enumT {X : Cx} {e : Expr} {ta : TA} {p pos tpos : Pos} {elts : List Expr} {kk : Nat} (hg : Gl X "enumerate") (hm : X.mg "enumerate" = none) (ha : PA X [e] ta) (hs : starEach [e] X.env = [(false, eval e X.env)] := by rfl) :
    PI X (.Tuple elts kk tpos) (.Call (.Name "enumerate" p) [e] [] pos) (iEnumT X.K ta) := by
  refine ⟨fun pins s σ H R I h => ?_⟩
  refine Call_ (ld_blt I hg hm boot_enumerate (PyProof.Rows.callWith_type1 (thn (ha.run pos pins s σ H _ I h) fun us s1 ⟨vs, H1, I1, r1, q1⟩ => ?_) hs rfl))
  obtain ⟨a, xs, ex, hq, q⟩ := q1
  subst ex
  obtain ⟨u, eu, ru⟩ := vals1 r1
  subst eu
  cases ru
  obtain ⟨its, rv, p0, hz⟩ := I1.tuple hq
  have pl : s1.heap.IsTuple a its.toArray := p0
  refine enum_begins1 (begins_tuple a its.toArray) pl fun h' hen hit hkp => wpAny_pyIter_enum hen ?_
  have I3 : Inv X pins σ H1 { s1 with heap := h' } := I1.kept (t' := s1.toks) hkp
  refine ⟨s1.heap.objs.size + 1, [s1.heap.objs.size + 1, s1.heap.objs.size], _, _, H1, rfl, I3, turn_enumT a (s1.heap.objs.size + 1) s1.heap.objs.size 0,
    ⟨⟨.none, ?_⟩, ⟨_, hit, rfl, rfl⟩, Nat.succ_ne_self _⟩, fun b hb => ?_, q⟩
  · show IsEnum h' _ _ (0 + 0) _
    rw [Int.add_zero]
    exact hen
  · have two : b = s1.heap.objs.size + 1 ∨ b = s1.heap.objs.size := by simpa using hb
    have hle : s1.heap.objs.size ≤ b := by
      rcases two with z | z
      · rw [z]; exact Nat.le_add_right _ 1
      · rw [z]; exact Nat.le_refl _
    exact I1.fpOk hle (I1.hok.fresh hle)
theorem walk_enumT {K : PySem.W.Frag} {a : Addr} {k : Int} {xs : List V} :
    Walk (IteT K a k) xs.length (fun H => SqT K H a xs) (fun i H v H' => ∃ T x, v = .ref T ∧ H T = none ∧ H' = upd H T (.tup [.int (k + (i : Nat)), x]) ∧ xs[i]? = some x) :=
  ⟨fun i H hi q => ⟨xs, xs[i], q, List.getElem?_eq_getElem hi⟩, fun H q => ⟨xs, q, Nat.le_refl _⟩, fun i H v H' hi q ⟨T, x, e1, e2, e3, e4⟩ => ⟨T, x, e1, e2, e3, e4 xs q⟩⟩
end DP
namespace DP
open PySem PySem.Spec PyProof.Rows L2
def okP (r : RecD) (s : Int) (p : PasD) : Bool := decide ((p.sat : Int) = (r.sat : Int)) && (decide (s + r.length ≤ p.first) && decide (p.fin ≤ r.deadline))
def optAt (P : List PasD) (r : RecD) (s : Int) (k : Nat) : List (Int × Int) := match P[k]? with
  | some p => if okP r s p = true then [(s, (k : Int))] else []
  | none => []
def optS (P : List PasD) (r : RecD) (s : Int) (j : Nat) : List (Int × Int) := (List.range j).flatMap (optAt P r s)
def optR (P : List PasD) (r : RecD) (i : Nat) : List (Int × Int) := (List.range i).flatMap fun (t : Nat) => optS P r (r.earliest + (t : Int)) P.length
def optsW (W : WorldD) (r : RecD) : List (Int × Int) := optR W.pass r (r.latest + 1 - r.earliest).toNat
theorem optS_succ (P : List PasD) (r : RecD) (s : Int) (j : Nat) : optS P r s (j + 1) = optS P r s j ++ optAt P r s j := by
  unfold optS
  rw [List.range_succ, List.flatMap_append, List.flatMap_cons, List.flatMap_nil, List.append_nil]
theorem optR_succ (P : List PasD) (r : RecD) (i : Nat) : optR P r (i + 1) = optR P r i ++ optS P r (r.earliest + (i : Int)) P.length := by
  unfold optR
  rw [List.range_succ, List.flatMap_append, List.flatMap_cons, List.flatMap_nil, List.append_nil]
theorem optAt_len (P : List PasD) (r : RecD) (s : Int) (k : Nat) : (optAt P r s k).length ≤ 1 := by
  unfold optAt
  split
  · split <;> simp
  · exact Nat.zero_le _
theorem optS_len (P : List PasD) (r : RecD) (s : Int) : ∀ j, (optS P r s j).length ≤ j
  | 0 => Nat.zero_le _
  | j + 1 => by
    rw [optS_succ, List.length_append]
    have h1 := optS_len P r s j
    have h2 := optAt_len P r s j
    omega
theorem optR_len (P : List PasD) (r : RecD) : ∀ i, (optR P r i).length ≤ i * P.length
  | 0 => by show 0 ≤ _; exact Nat.zero_le _
  | i + 1 => by
    rw [optR_succ, List.length_append, Nat.succ_mul]
    have h1 := optR_len P r i
    have h2 := optS_len P r (r.earliest + (i : Int)) P.length
    omega
theorem optAt_some {P : List PasD} {r : RecD} {s : Int} {k : Nat} {p : PasD} (h : P[k]? = some p) : optAt P r s k = if okP r s p = true then [(s, (k : Int))] else [] := by
  unfold optAt
  rw [h]
theorem room_opts {W : WorldD} {z : RecD} (ok : RecOk W z) (n : W.pass.length ≤ 10) {i : Nat} (hi : i ≤ (z.latest + 1 - z.earliest).toNat) {j : Nat} (s : Int) : (optR W.pass z i ++ optS W.pass z s j).length ≤ 210 + j := by
  rw [List.length_append]
  have h1 := optR_len W.pass z i
  have h2 := optS_len W.pass z s j
  have h3 := ok.latest
  have h4 : i ≤ 21 := by omega
  have h5 : i * W.pass.length ≤ 21 * 10 := Nat.mul_le_mul h4 n
  omega
theorem optsW_len {W : WorldD} (wok : WorldOk W) {z : RecD} (ok : RecOk W z) : (optsW W z).length ≤ 210 := by
  have h := room_opts ok wok.nPass (Nat.le_refl _) (j := 0) 0
  rw [List.length_append] at h
  show (optR _ _ _).length ≤ _
  omega
end DP
namespace DP
open PySem PySem.Spec PyProof.Rows L2
abbrev s__law_options : Stmt := topS 83
theorem sc__law_options : FnScope ["world", "number", "name", "satellite", "numbers", "urgency", "found", "start", "p", "chance"] ["world", "number"] (defScope s__law_options) := ⟨rfl, rfl, rfl, by decide +kernel, rfl, by decide +kernel, by decide +kernel⟩
section
variable {P : Program} {w : World} {K : PySem.W.Frag} {mg : Str → Option Value} {base : Heap} {CL CS CT CR CP CW aS aR fS fT fR fP : Addr}
def spLawOptions (K : PySem.W.Frag) : Sp := fun vs H Q _ => ∃ (wd : Addr) (W : WorldD) (i : Nat) (z : RecD), vs = [.ref wd, .int (i : Int)] ∧ WorldOk W ∧ WdAt K H wd W ∧ W.recs[i]? = some z ∧
  ∀ l xs H', Same H H' → H l = none → H' l = some (.lst xs) → Spans K H' xs (optsW W z) → Q (.ref l) H'
set_option maxHeartbeats 8000000 in
theorem d_law_options (B : Bt mg) (A : At K mg "_law_options" s__law_options ["world", "number"]) : DefOk P w K mg base CX0 1 "_law_options" ["world", "number"] (spLawOptions K) := by
  refine A.ok sc__law_options (fun vs H Q E h => ?_) (fun f cdv A outer s H vs Q E hr h => ?_)
  · obtain ⟨wd, W, i, z, rfl, _⟩ := h
    rfl
  obtain ⟨wd, W, i, z, rfl, wok, hwd, hz, q⟩ := h
  obtain ⟨a, b, c, d, xa, xb, xc, xd, g, a1, a2, b1, b2, c1, c2, d1, d2⟩ := hwd.ex
  have ok := wok.recs z (List.mem_of_getElem? hz)
  have nP := wok.nPass
  have k1 := ok.earliest
  have k2 := ok.latest
  have k3 := wok.horizon
  have m3 := dpAll_len d2
  rw [List.length_map] at m3
  obtain ⟨v, ev, dv⟩ := dpAll_get2 c2 hz
  obtain ⟨t, t1, t2, rfl, u1, u2, u3⟩ := rec_open dv
  refine ⟨_, pss_cons (ps_asg (pe_ix ix_list (pe_dget (hu_of hr) (pv 0) pe_str (fun _ _ => rfl)) (pv 1) (fun _ _ => rfl)) (pg_tup (by rfl) (pgs_cons (pg_name (i := 2) sc__law_options.nd rfl (Or.inl rfl)) (pgs_cons (pg_name (i := 3) sc__law_options.nd rfl (Or.inl rfl)) (pgs_cons (pg_name (i := 4) sc__law_options.nd rfl (Or.inl rfl)) (pgs_cons (pg_name (i := 5) sc__law_options.nd rfl (Or.inl rfl)) (pgs_nil)))))))
  (pss_cons (ps_set (i := 6) sc__law_options.nd rfl (Or.inl rfl) (pe_lst pa_nil))
  (pss_cons (ps_for PassesOwn.never rfl (pi_range2 (by rfl) B.range (pa_cons (pe_ix ix_tup (pv 4) pe_int (fun _ _ => rfl)) (pa_cons (pe_op op_add (pe_ix ix_tup (pv 4) pe_int (fun _ _ => rfl)) pe_int) pa_nil))) (pg_name (i := 7) sc__law_options.nd rfl (Or.inl rfl))
      (pss_one (ps_for PassesOwn.never rfl (pi_range1 (by rfl) B.range (pa_cons (pe_callB (call_len_seq) (by rfl) B.len (by decide +kernel) (pa_cons (pe_dget (hu_of hr) (pv 0) pe_str (fun _ _ => rfl)) pa_nil)) pa_nil)) (pg_name (i := 8) sc__law_options.nd rfl (Or.inl rfl))
          (pss_cons (ps_set (i := 9) sc__law_options.nd rfl (Or.inl rfl) (pe_ix ix_list (pe_dget (hu_of hr) (pv 0) pe_str (fun _ _ => rfl)) (pv 8) (fun _ _ => rfl)))
          (pss_one (ps_if (PW.pt (pw_and (pt_cmpR op_eq (pe_ix ix_tup (pv 9) pe_int (fun _ _ => rfl)) (pv 3) (nomark _)) (pw_and (pt_cmpR op_le (pe_op op_add (pv 7) (pe_ix ix_tup (pv 4) pe_int (fun _ _ => rfl))) (pe_ix ix_tup (pe_ix ix_tup (pv 9) pe_int (fun _ _ => rfl)) pe_int (fun _ _ => rfl)) (nomark _)) (pw_and1 (pt_cmpR op_le (pe_ix ix_tup (pe_ix ix_tup (pv 9) pe_int (fun _ _ => rfl)) pe_int (fun _ _ => rfl)) (pe_ix ix_tup (pv 5) pe_int (fun _ _ => rfl)) (nomark _))))))
              (pss_one (ps_expr (pe_bm PySem.F.plainAttrs_list PySem.F.slot_list_append PySem.F.type_list_append mt_append (pv 6) (pa_cons (pe_tup (pa_cons (pv 7) (pa_cons (pv 8) pa_nil))) pa_nil))))
              (pss_nil)))))))
  (pss_one (ps_ret (pv 6)))))
    , ?_⟩
  refine ⟨_, rfl, wd, _, rfl, get_r g, _, rfl, c, xc, (i : Int), _, rfl, rfl, SqL.of c1, atI_nat ev, t, _, rfl, u1, rfl, _, _, rfl, _, _, rfl, _, _, rfl, _, _, rfl, rfl, ?_⟩
  refine ⟨Nat.zero_le _, fun D hD => ?_⟩
  have sD := same_new hD (.lst [])
  refine ⟨_, rfl, t1, _, 0, _, rfl, rfl, Same.tup sD u2, rfl, _, rfl, t1, _, 1, _, rfl, rfl, Same.tup sD u2, rfl, _, _, rfl, rfl, z.earliest, z.latest + 1, rfl, ⟨by omega, by omega, by omega, by omega⟩, ?_⟩
  refine for_range (lo := z.earliest) (n := (z.latest + 1 - z.earliest).toNat) (fun j σ H' => ∃ (xs : List V) (y7 y8 y9 : Option V), σ = [some (.ref wd), some (.int (i : Int)), some (.str z.name), some (.int (z.sat : Int)), some (.ref t1), some (.ref t2), some (.ref D), y7, y8, y9] ∧ H' D = some (.lst xs) ∧ Spans K H' xs (optR W.pass z j) ∧ Same H H')
    ⟨[], none, none, none, rfl, upd_same, (show Spans K _ [] [] from .nil), sD⟩ (fun j σ H1 hj hI => ?_) (fun σ H1 hI => ?_)
  · obtain ⟨xs, y7, y8, y9, rfl, hDD, hsp, hs⟩ := hI
    refine ⟨_, rfl, wd, _, rfl, get_p (hs _ _ g), d, xd, rfl, .inl (SqL.of (hs _ _ d1)), _, rfl, by omega, by omega, ?_⟩
    refine for_range (lo := 0) (n := (xd.length : Int).toNat) (fun k σ H' => ∃ (xs : List V) (y8 y9 : Option V), σ = [some (.ref wd), some (.int (i : Int)), some (.str z.name), some (.int (z.sat : Int)), some (.ref t1), some (.ref t2), some (.ref D), some (.int (z.earliest + (j : Int))), y8, y9] ∧ H' D = some (.lst xs) ∧
      Spans K H' xs (optR W.pass z j ++ optS W.pass z (z.earliest + (j : Int)) k) ∧ Same H H') ⟨xs, _, _, rfl, hDD, by show Spans K H1 xs (optR W.pass z j ++ []); rw [List.append_nil]; exact hsp, hs⟩ (fun k σ H2 hk hI => ?_) (fun σ H2 hI => ?_)
    · obtain ⟨xs, y8, y9, rfl, hDD, hsp, hs⟩ := hI
      have hk' : k < W.pass.length := by omega
      have hc : W.pass[k]? = some W.pass[k] := List.getElem?_eq_getElem hk'
      obtain ⟨p, ep⟩ : ∃ p, W.pass[k] = p := ⟨_, rfl⟩
      rw [ep] at hc
      obtain ⟨v, ev2, dv2⟩ := dpAll_get2 d2 hc
      obtain ⟨tc, tc1, tc2, rfl, w1, w2, w3⟩ := pas_open dv2
      have hll := paired_len hsp
      have hrm := room_opts ok nP (Nat.le_of_lt hj) (j := k) (z.earliest + (j : Int))
      have kl : k ≤ 10 := by omega
      have ea := optAt_some (r := z) (s := z.earliest + (j : Int)) hc
      have w1 := Same.tup hs w1
      have w2 := Same.tup hs w2
      have u2 := Same.tup hs u2
      have u3 := Same.tup hs u3
      have no : okP z (z.earliest + (j : Int)) p = false → Spans K H2 xs (optR W.pass z j ++ optS W.pass z (z.earliest + (j : Int)) (k + 1)) := fun e => by
        rw [optS_succ, ea, e, if_neg Bool.false_ne_true, List.append_nil]
        exact hsp
      refine ⟨_, rfl, wd, _, rfl, get_p (hs _ _ g), _, rfl, d, xd, (k : Int), _, rfl, by rw [Int.zero_add], SqL.of (hs _ _ d1), atI_nat ev2, ?_⟩
      refine ⟨_, rfl, tc, _, 1, _, rfl, rfl, w1, rfl, _, rfl, rfl, _, rfl, ite2 (fun e1 => ?_) (fun e1 => iteF ?_)⟩
      · refine ⟨_, rfl, _, rfl, t1, _, 2, _, rfl, rfl, u2, rfl, _, _, rfl, rfl, _, rfl, tc, _, 3, _, rfl, rfl, w1, rfl, tc1, _, 0, _, rfl, rfl, w2, rfl, _, _, rfl, rfl, _, rfl, ite2 (fun e2 => ?_) (fun e2 => iteF ?_)⟩
        · refine ⟨_, rfl, tc, _, 3, _, rfl, rfl, w1, rfl, tc1, _, 1, _, rfl, rfl, w2, rfl, _, rfl, t2, _, 2, _, rfl, rfl, u3, rfl, _, _, rfl, rfl, _, rfl, ite2 (fun e3 => ?_) (fun e3 => ?_)⟩
          · refine ⟨_, rfl, .inl ⟨rfl, _, SqL.of hDD⟩, _, rfl, _, rfl, sz2_, fun tn htn => ?_⟩
            have sB := same_new htn (.tup [.int (z.earliest + (j : Int)), .int (0 + (k : Nat))])
            refine ⟨D, xs, .ref tn, rfl, rfl, sB _ _ hDD, by rw [hll]; exact small1000 (by omega), ?_⟩
            have yes : okP z (z.earliest + (j : Int)) p = true := by
              unfold okP
              rw [show decide ((p.sat : Int) = (z.sat : Int)) = true from decide_eq_true (V.int.inj (of_decide_eq_true e1)), show decide (z.earliest + (j : Int) + z.length ≤ p.first) = true from e2, show decide (p.fin ≤ z.deadline) = true from e3]
              rfl
            refine ⟨xs ++ [.ref tn], _, _, rfl, upd_same, ?_, same_at hD (hs.trans sB) _⟩
            rw [optS_succ, ea, yes, if_pos rfl, ← List.append_assoc]
            exact Spans.upd (paired_snoc (hsp.same sB) ⟨tn, rfl, SqT.of (by rw [upd_same, Int.zero_add])⟩) (sB _ _ hDD)
          · refine ⟨xs, _, _, rfl, hDD, no ?_, hs⟩
            unfold okP
            rw [show decide (p.fin ≤ z.deadline) = false from Bool.eq_false_iff.mpr e3, Bool.and_false, Bool.and_false]
        · refine ⟨xs, _, _, rfl, hDD, no ?_, hs⟩
          unfold okP
          rw [show decide (z.earliest + (j : Int) + z.length ≤ p.first) = false from Bool.eq_false_iff.mpr e2, Bool.false_and, Bool.and_false]
      · refine ⟨xs, _, _, rfl, hDD, no ?_, hs⟩
        unfold okP
        rw [show decide ((p.sat : Int) = (z.sat : Int)) = false from decide_eq_false fun q => e1 (decide_eq_true (by rw [q])), Bool.false_and]
    · obtain ⟨xs, y8, y9, rfl, hDD, hsp, hs⟩ := hI
      rw [show (xd.length : Int).toNat = W.pass.length by omega, ← optR_succ] at hsp
      exact ⟨xs, _, _, _, rfl, hDD, hsp, hs⟩
  · obtain ⟨xs, y7, y8, y9, rfl, hDD, hsp, hs⟩ := hI
    exact ⟨_, rfl, q D xs _ hs hD hDD hsp⟩
end
end DP
namespace DP
open PySem PySem.Spec PyProof.Rows L2
abbrev s__law_case : Stmt := topS 84
theorem sc__law_case : FnScope ["script", "first", "world", "open_too", "stream", "made", "r", "listed", "kind", "entry", "taken", "p"] ["script", "first", "world", "open_too"] (defScope s__law_case) := ⟨rfl, rfl, rfl, by decide +kernel, rfl, by decide +kernel, by decide +kernel⟩
inductive EntM where
  | non : EntM
  | opn : EntM
  | at_ (s p : Int) : EntM
inductive EntT where
  | non : EntT
  | opn : EntT
  | ant (n : Int) : EntT
def entM : EntM → PyData
  | .non => .none
  | .opn => .str "open"
  | .at_ s p => .tuple [.int s, .int p]
def entT : EntT → PyData
  | .non => .none
  | .opn => .str "open"
  | .ant n => .int n
theorem noL_entM (e : EntM) : noL (entM e) := by cases e <;> simp [entM, noL, noLs]
theorem noL_entT (e : EntT) : noL (entT e) := by cases e <;> simp [entT, noL]
structure CaseD where
  made : List EntM
  taken : List EntT
def casePy (c : CaseD) : PyData := .tuple [.tuple (c.made.map entM), .tuple (c.taken.map entT)]
/-- what an entry of a drawn case can be -/
def MOk (W : WorldD) (o : Bool) : EntM → Prop
  | .non => True
  | .opn => o = true
  | .at_ s p => 0 ≤ s ∧ s ≤ W.horizon ∧ 0 ≤ p ∧ p < (W.pass.length : Int)
def TOk (o : Bool) : EntT → Prop
  | .non => True
  | .opn => o = true
  | .ant n => 0 ≤ n ∧ n ≤ 5
structure CaseG (W : WorldD) (o : Bool) (c : CaseD) : Prop where
  nM : c.made.length = W.recs.length
  nT : c.taken.length = W.pass.length
  mOk : ∀ e ∈ c.made, MOk W o e
  tOk : ∀ e ∈ c.taken, TOk o e
theorem optsW_mem {W : WorldD} {z : RecD} (ok : RecOk W z) {q : Int × Int} (h : q ∈ optsW W z) : 0 ≤ q.1 ∧ q.1 ≤ W.horizon ∧ 0 ≤ q.2 ∧ q.2 < (W.pass.length : Int) := by
  unfold optsW optR at h
  obtain ⟨i, hi, h⟩ := List.mem_flatMap.mp h
  unfold optS at h
  obtain ⟨k, hk, h⟩ := List.mem_flatMap.mp h
  rw [List.mem_range] at hi hk
  unfold optAt at h
  have h1 := ok.earliest
  have h2 := ok.latest
  split at h
  · split at h
    · have e := List.mem_singleton.mp h
      rw [e]
      dsimp only
      omega
    · exact absurd h List.not_mem_nil
  · exact absurd h List.not_mem_nil
section
variable {P : Program} {w : World} {K : PySem.W.Frag} {mg : Str → Option Value} {base : Heap}
theorem dp_at {H : Hp} {v : V} {s p : Int} (h : SpanV K H v (s, p)) : Dp K H v (entM (.at_ s p)) := by
  obtain ⟨t, rfl, ht⟩ := h
  exact .tup ht (.cons (.int _) (.cons (.int _) .nil))
def spCase (K : PySem.W.Frag) : Sp := fun vs H Q _ => ∃ (a : Addr) (ns : List Int) (first : Int) (wd : Addr) (W : WorldD) (o : Bool), vs = [.ref a, .int first, .ref wd, .bl o] ∧ SqL K H a (ns.map V.int) ∧ 0 ≤ first ∧ WG W ∧ WdAt K H wd W ∧
  ∀ v H' c, Same H H' → CaseG W o c → Dp K H' v (casePy c) → Q v H'
set_option maxHeartbeats 8000000 in
theorem d_case (B : Bt mg) (D_law_stream : DefOk P w K mg base CX0 2 "_law_stream" ["script", "first", "count"] (spStream K)) (D_law_next : DefOk P w K mg base CX0 1 "_law_next" ["stream", "many"] spNext)
    (D_law_options : DefOk P w K mg base CX0 1 "_law_options" ["world", "number"] (spLawOptions K)) (A : At K mg "_law_case" s__law_case ["script", "first", "world", "open_too"]) : DefOk P w K mg base CX0 3 "_law_case" ["script", "first", "world", "open_too"] (spCase K) := by
  refine A.ok sc__law_case (fun vs H Q E h => ?_) (fun f cdv A outer s H vs Q E hr h => ?_)
  · obtain ⟨a, ns, first, wd, W, o, rfl, _⟩ := h
    rfl
  obtain ⟨a, ns, first, wd, W, o, rfl, hS, hf0, wg, hwd, q⟩ := h
  refine ⟨_, pss_cons (ps_set (i := 4) sc__law_case.nd rfl (Or.inl rfl) (pe_f D_law_stream (hr.mono (by omega)) pass0 (pa_cons (pv 0) (pa_cons (pv 1) (pa_cons pe_int pa_nil)))))
  (pss_cons (ps_set (i := 5) sc__law_case.nd rfl (Or.inl rfl) (pe_lst pa_nil))
  (pss_cons (ps_for PassesOwn.never rfl (pi_range1 (by rfl) B.range (pa_cons (pe_callB (call_len_seq) (by rfl) B.len (by decide +kernel) (pa_cons (pe_dget (hu_of hr) (pv 2) pe_str (fun _ _ => rfl)) pa_nil)) pa_nil)) (pg_name (i := 6) sc__law_case.nd rfl (Or.inl rfl))
      (pss_cons (ps_set (i := 7) sc__law_case.nd rfl (Or.inl rfl) (pe_f D_law_options (hr.mono (by omega)) pass0 (pa_cons (pv 2) (pa_cons (pv 6) pa_nil))))
      (pss_cons (ps_set (i := 8) sc__law_case.nd rfl (Or.inl rfl) (pe_f D_law_next (hr.mono (by omega)) pass0 (pa_cons (pv 4) (pa_cons pe_int pa_nil))))
      (pss_cons (ps_set (i := 9) sc__law_case.nd rfl (Or.inl rfl) pe_non)
      (C8.pss_cut (ps_if (PW.pt (pw_and (pt_cmpR op_gt (pv 8) pe_int (nomark _)) (pw_and1 (pt_truth (pv 7) (by intro _; rfl)))))
          (pss_one (ps_set (i := 9) sc__law_case.nd rfl (Or.inl rfl) (pe_ix ix_list (pv 7) (pe_op op_mod (pe_f D_law_next (hr.mono (by omega)) pass0 (pa_cons (pv 4) (pa_cons pe_int pa_nil))) (pe_callB (call_len_seq) (by rfl) B.len (by decide +kernel) (pa_cons (pv 7) pa_nil))) (fun _ _ => rfl))))
          (pss_one (ps_if (PW.pt (pw_and (pt_cmpR op_eq (pv 8) pe_int (nomark _)) (pw_and1 (pt_truth (pe_dget (hu_of hr) (pv 2) pe_str (fun _ _ => rfl)) (by intro _; rfl)))))
              (pss_one (ps_set (i := 9) sc__law_case.nd rfl (Or.inl rfl) (pe_tup (pa_cons (pe_op op_mod (pe_f D_law_next (hr.mono (by omega)) pass0 (pa_cons (pv 4) (pa_cons pe_int pa_nil))) (pe_op op_add (pe_dget (hu_of hr) (pv 2) pe_str (fun _ _ => rfl)) pe_int)) (pa_cons (pe_f D_law_next (hr.mono (by omega)) pass0 (pa_cons (pv 4) (pa_cons (pe_callB (call_len_seq) (by rfl) B.len (by decide +kernel) (pa_cons (pe_dget (hu_of hr) (pv 2) pe_str (fun _ _ => rfl)) pa_nil)) pa_nil))) pa_nil)))))
              (pss_nil))))
      (C8.pss_cut (ps_if (PW.pt (pw_and (pt_val (pv 3)) (pw_and1 (pt_cmpR op_eq (pe_f D_law_next (hr.mono (by omega)) pass0 (pa_cons (pv 4) (pa_cons pe_int pa_nil))) pe_int (nomark _)))))
          (pss_one (ps_set (i := 9) sc__law_case.nd rfl (Or.inl rfl) pe_str))
          (pss_nil))
      (pss_one (ps_expr (pe_bm PySem.F.plainAttrs_list PySem.F.slot_list_append PySem.F.type_list_append mt_append (pv 5) (pa_cons (pv 9) pa_nil))))))))))
  (pss_cons (ps_set (i := 10) sc__law_case.nd rfl (Or.inl rfl) (pe_lst pa_nil))
  (pss_cons (ps_for PassesOwn.never rfl (pi_range1 (by rfl) B.range (pa_cons (pe_callB (call_len_seq) (by rfl) B.len (by decide +kernel) (pa_cons (pe_dget (hu_of hr) (pv 2) pe_str (fun _ _ => rfl)) pa_nil)) pa_nil)) (pg_name (i := 11) sc__law_case.nd rfl (Or.inl rfl))
      (pss_cons (ps_set (i := 8) sc__law_case.nd rfl (Or.inl rfl) (pe_f D_law_next (hr.mono (by omega)) pass0 (pa_cons (pv 4) (pa_cons pe_int pa_nil))))
      (pss_cons (ps_set (i := 9) sc__law_case.nd rfl (Or.inl rfl) pe_non)
      (C8.pss_cut (ps_if (pt_cmpR op_gt (pv 8) pe_int (nomark _))
          (pss_one (ps_set (i := 9) sc__law_case.nd rfl (Or.inl rfl) (pe_f D_law_next (hr.mono (by omega)) pass0 (pa_cons (pv 4) (pa_cons (pe_ix ix_tup (pe_ix ix_list (pe_dget (hu_of hr) (pv 2) pe_str (fun _ _ => rfl)) (pe_ix ix_tup (pe_ix ix_list (pe_dget (hu_of hr) (pv 2) pe_str (fun _ _ => rfl)) (pv 11) (fun _ _ => rfl)) pe_int (fun _ _ => rfl)) (fun _ _ => rfl)) pe_int (fun _ _ => rfl)) pa_nil)))))
          (pss_nil))
      (C8.pss_cut (ps_if (PW.pt (pw_and (pt_cmpR op_eq (pv 8) pe_int (nomark _)) (pw_and1 (pt_cmpR op_eq (pe_f D_law_next (hr.mono (by omega)) pass0 (pa_cons (pv 4) (pa_cons pe_int pa_nil))) pe_int (nomark _)))))
          (pss_one (ps_set (i := 9) sc__law_case.nd rfl (Or.inl rfl) (pe_op op_add pe_int (pe_f D_law_next (hr.mono (by omega)) pass0 (pa_cons (pv 4) (pa_cons pe_int pa_nil))))))
          (pss_nil))
      (C8.pss_cut (ps_if (PW.pt (pw_and (pt_val (pv 3)) (pw_and1 (pt_cmpR op_eq (pe_f D_law_next (hr.mono (by omega)) pass0 (pa_cons (pv 4) (pa_cons pe_int pa_nil))) pe_int (nomark _)))))
          (pss_one (ps_set (i := 9) sc__law_case.nd rfl (Or.inl rfl) pe_str))
          (pss_nil))
      (pss_one (ps_expr (pe_bm PySem.F.plainAttrs_list PySem.F.slot_list_append PySem.F.type_list_append mt_append (pv 10) (pa_cons (pv 9) pa_nil))))))))))
  (pss_one (ps_ret (pe_tup (pa_cons (pe_callTy (call_tuple_of) (by rfl) B.tuple (by decide +kernel) (pa_cons (pv 5) pa_nil)) (pa_cons (pe_callTy (call_tuple_of) (by rfl) B.tuple (by decide +kernel) (pa_cons (pv 10) pa_nil)) pa_nil)))))))))
    , ?_⟩
  refine ⟨_, rfl, _, rfl, a, ns, first, 4, rfl, hS, by omega, by decide, by decide, fun st H1 s1 _ hst => ?_⟩
  have hwd1 := hwd.same s1
  obtain ⟨wa, wb, wc, we, xa, xb, xc, xd, g, a1, a2, b1, b2, c1, c2, d1, d2⟩ := hwd1.ex
  have m2 := dpAll_len c2
  have m3 := dpAll_len d2
  rw [List.length_map] at m2 m3
  have nR := wg.ok.nRecs
  have nP := wg.ok.nPass
  have hz := wg.ok.horizon
  refine ⟨Nat.zero_le _, fun D hD => ?_⟩
  have sD := same_new hD (.lst [])
  refine ⟨_, rfl, wd, _, rfl, get_r (sD _ _ g), wc, xc, rfl, .inl (SqL.of (sD _ _ c1)), _, rfl, by omega, by omega, ?_⟩
  refine for_range (lo := 0) (n := (xc.length : Int).toNat) (fun i σ H' => ∃ (es : List EntM) (xs : List V) (y6 y7 y8 y9 : Option V), σ = [some (.ref a), some (.int first), some (.ref wd), some (.bl o), some (.ref st), some (.ref D), y6, y7, y8, y9, none, none] ∧
    H' D = some (.lst xs) ∧ xs.length = i ∧ DpAll K H' xs (es.map entM) ∧ (∀ e ∈ es, MOk W o e) ∧ es.length = i ∧ Same H1 H') ⟨[], [], none, none, none, none, rfl, upd_same, rfl, .nil, fun _ z => absurd z List.not_mem_nil, rfl, sD⟩ (fun i σ H2 hi hI => ?_) (fun σ H2 hI => ?_)
  · obtain ⟨es, xs, y6, y7, y8, y9, rfl, hDD, hxl, hdp, hok, hel, hs⟩ := hI
    have hi' : i < W.recs.length := by omega
    obtain ⟨z, hz1⟩ : ∃ z, W.recs[i]? = some z := ⟨_, List.getElem?_eq_getElem hi'⟩
    have ok := wg.ok.recs z (List.mem_of_getElem? hz1)
    refine ⟨_, rfl, _, rfl, wd, W, i, z, by rw [Int.zero_add]; rfl, wg.ok, hwd1.same hs, hz1, fun l ls H3 s3 hl0 hl hx => ?_⟩
    have t3 := hs.trans s3
    have hst3 := hst.same t3
    have lls := paired_len hx
    have lop := optsW_len wg.ok ok
    refine ⟨_, rfl, st, 6, rfl, by decide, hst3, fun kd kd0 kd1 => ?_⟩
    -- entry = None; the first test
    refine ⟨fun σ' H' => ∃ (e : EntM) (v : V), σ' = [some (.ref a), some (.int first), some (.ref wd), some (.bl o), some (.ref st), some (.ref D), some (.int (0 + (i : Int))), some (.ref l), some (.int kd), some v, none, none] ∧ MOk W o e ∧ Dp K H' v (entM e) ∧ Same H3 H', ?_, fun σ' H4 hm => ?_⟩
    · have no : ∃ (e : EntM) (v : V), ([some (V.ref a), some (.int first), some (.ref wd), some (.bl o), some (.ref st), some (.ref D), some (.int (0 + (i : Int))), some (.ref l), some (.int kd), some .non, none, none] : L2.St) = [some (.ref a), some (.int first), some (.ref wd), some (.bl o), some (.ref st), some (.ref D), some (.int (0 + (i : Int))), some (.ref l), some (.int kd), some v, none, none] ∧ MOk W o e ∧ Dp K H3 v (entM e) ∧ Same H3 H3 :=
        ⟨.non, .non, rfl, True.intro, .non, Same.refl _⟩
      refine ⟨_, rfl, _, _, rfl, rfl, _, rfl, ite2 (fun k1 => ⟨_, rfl, _, .inl ⟨ls, SqL.of hl, rfl⟩, ite2 (fun k2 => ?_) (fun k2 => ?_)⟩) (fun k1 => iteF ?_)⟩
      · have pos : 0 < ls.length := by
          cases ls with
          | nil => exact absurd k2 (by decide)
          | cons _ _ => exact Nat.succ_pos _
        refine ⟨_, rfl, _, rfl, st, 60, rfl, by decide, hst3, fun u u0 u1 => ⟨_, rfl, l, ls, rfl, .inl (SqL.of hl), _, _, rfl, rfl, (by show (0 : Int) < (ls.length : Int); omega), ?_⟩⟩
        have r0 : 0 ≤ u % (ls.length : Int) := Int.emod_nonneg _ (by omega)
        have r1 : u % (ls.length : Int) < (ls.length : Int) := Int.emod_lt_of_pos _ (by omega)
        obtain ⟨j, ej⟩ : ∃ j : Nat, u % (ls.length : Int) = (j : Int) := ⟨(u % (ls.length : Int)).toNat, by omega⟩
        obtain ⟨x, hxj⟩ : ∃ x, ls[j]? = some x := ⟨_, List.getElem?_eq_getElem (by omega)⟩
        obtain ⟨y, hy, sp⟩ := paired_at hx hxj
        have hm := optsW_mem ok (List.mem_of_getElem? hy)
        exact ⟨l, ls, _, x, rfl, rfl, SqL.of hl, by rw [ej]; exact atI_nat hxj, .at_ y.1 y.2, x, rfl, hm, dp_at sp, Same.refl _⟩
      all_goals
        refine ⟨_, rfl, rfl, _, rfl, ite2 (fun k3 => ⟨_, rfl, wd, _, rfl, get_p (t3 _ _ g), _, .inl ⟨xd, SqL.of (t3 _ _ d1), rfl⟩, ite2 (fun k4 => ?_) (fun k4 => no)⟩) (fun k3 => iteF no)⟩
        have pos : 0 < xd.length := by
          cases xd with
          | nil => exact absurd k4 (by decide)
          | cons _ _ => exact Nat.succ_pos _
        refine ⟨_, rfl, st, 60, rfl, by decide, hst3, fun u u0 u1 => ⟨_, rfl, wd, _, rfl, get_h (t3 _ _ g), _, _, rfl, rfl, _, _, rfl, rfl, (by show (0 : Int) < W.horizon + 1; omega), ?_⟩⟩
        refine ⟨_, rfl, _, rfl, wd, _, rfl, get_p (t3 _ _ g), we, xd, rfl, .inl (SqL.of (t3 _ _ d1)), st, (xd.length : Int), rfl, by omega, hst3, fun v v0 v1 => ⟨sz2_, fun t ht => ?_⟩⟩
        have r0 : 0 ≤ u % (W.horizon + 1) := Int.emod_nonneg _ (by omega)
        have r1 : u % (W.horizon + 1) < W.horizon + 1 := Int.emod_lt_of_pos _ (by omega)
        exact ⟨.at_ (u % (W.horizon + 1)) v, .ref t, rfl, ⟨r0, by omega, v0, by omega⟩, .tup (SqT.of upd_same) (.cons (.int _) (.cons (.int _) .nil)), same_new ht _⟩
    obtain ⟨e, v, rfl, eok, edp, s4⟩ := hm
    refine ⟨fun σ' H' => ∃ (e : EntM) (v : V), σ' = [some (.ref a), some (.int first), some (.ref wd), some (.bl o), some (.ref st), some (.ref D), some (.int (0 + (i : Int))), some (.ref l), some (.int kd), some v, none, none] ∧ MOk W o e ∧ Dp K H' v (entM e) ∧ Same H3 H', ?_, fun σ' H5 hm => ?_⟩
    · have hst4 := hst3.same s4
      refine ⟨_, rfl, o, rfl, ite2 (fun k1 => ⟨_, rfl, st, 3, rfl, by decide, hst4, fun u u0 u1 => ⟨rfl, _, rfl, ite2 (fun k2 => ?_) (fun k2 => ?_)⟩⟩) (fun k1 => iteF ?_)⟩
      · exact ⟨.opn, .str "open", rfl, k1, .str _, s4⟩
      · exact ⟨e, v, rfl, eok, edp, s4⟩
      · exact ⟨e, v, rfl, eok, edp, s4⟩
    obtain ⟨e, v, rfl, eok, edp, s5⟩ := hm
    have dD := (s3.trans s5) _ _ hDD
    refine ⟨_, rfl, .inl ⟨rfl, _, SqL.of dD⟩, _, rfl, D, xs, v, rfl, rfl, dD, small1000 (by omega), ?_⟩
    refine ⟨es ++ [e], xs ++ [v], _, _, _, _, rfl, upd_same, by rw [List.length_append, List.length_singleton, hxl], ?_, all_snoc hok eok, by rw [List.length_append, List.length_singleton, hel], same_at hD (t3.trans s5) _⟩
    rw [List.map_append]
    exact dpAll_snoc (dpTs_up (noLs_map noL_entM es) dD (dpAll_same (s3.trans s5) hdp)) (dpT_up (noL_entM e) dD edp)
  · obtain ⟨es, xs, y6, y7, y8, y9, rfl, hDD, hxl, hdp, hok, hel, hs⟩ := hI
    have hst2 := hst.same hs
    refine ⟨Nat.zero_le _, fun F hF => ?_⟩
    have sF := same_new hF (.lst [])
    have nF : D ≠ F := ne_of_none hDD hF
    refine ⟨_, rfl, wd, _, rfl, get_p ((hs.trans sF) _ _ g), we, xd, rfl, .inl (SqL.of ((hs.trans sF) _ _ d1)), _, rfl, by omega, by omega, ?_⟩
    refine for_range (lo := 0) (n := (xd.length : Int).toNat) (fun i σ H' => ∃ (fs : List EntT) (ys : List V) (y8 y9 y11 : Option V), σ = [some (.ref a), some (.int first), some (.ref wd), some (.bl o), some (.ref st), some (.ref D), y6, y7, y8, y9, some (.ref F), y11] ∧
      H' F = some (.lst ys) ∧ ys.length = i ∧ DpAll K H' ys (fs.map entT) ∧ (∀ e ∈ fs, TOk o e) ∧ fs.length = i ∧ Same H2 H') ⟨[], [], _, _, none, rfl, upd_same, rfl, .nil, fun _ z => absurd z List.not_mem_nil, rfl, sF⟩ (fun i σ H3 hi hI => ?_) (fun σ H3 hI => ?_)
    · obtain ⟨fs, ys, y8, y9, y11, rfl, hFF, hyl, hdq, hok2, hfl, hq⟩ := hI
      have t3 := hs.trans hq
      have hst3 := hst.same t3
      have hi' : i < W.pass.length := by omega
      obtain ⟨z, hz1⟩ : ∃ z, W.pass[i]? = some z := ⟨_, List.getElem?_eq_getElem hi'⟩
      have ok := wg.ok.pass z (List.mem_of_getElem? hz1)
      obtain ⟨vp, evp, dvp⟩ := dpAll_get2 d2 hz1
      obtain ⟨tp, tp1, tp2, rfl, w1, _, _⟩ := pas_open dvp
      obtain ⟨zt, hzt⟩ : ∃ zt, W.stas[z.sta]? = some zt := ⟨_, List.getElem?_eq_getElem ok.sta⟩
      have okt := wg.ok.stas zt (List.mem_of_getElem? hzt)
      obtain ⟨vt, evt, dvt⟩ := dpAll_get2 b2 hzt
      obtain ⟨tt, rfl, w2⟩ := sta_open dvt
      have w1 := Same.tup t3 w1
      have w2 := Same.tup t3 w2
      have ant := okt.antennas
      refine ⟨_, rfl, st, 6, rfl, by decide, hst3, fun kd kd0 kd1 => ?_⟩
      -- an antenna
      refine ⟨fun σ' H' => H' = H3 ∧ ∃ (e : EntT) (v : V), σ' = [some (.ref a), some (.int first), some (.ref wd), some (.bl o), some (.ref st), some (.ref D), y6, y7, some (.int kd), some v, some (.ref F), some (.int (0 + (i : Int)))] ∧ TOk o e ∧ Dp K H' v (entT e), ?_, fun σ' H4 hm => ?_⟩
      · refine ⟨_, rfl, _, _, rfl, rfl, _, rfl, ite2 (fun k1 => ?_) (fun k1 => ?_)⟩
        · refine ⟨_, rfl, _, rfl, wd, _, rfl, get_t (t3 _ _ g), _, rfl, wd, _, rfl, get_p (t3 _ _ g), _, rfl, we, xd, (i : Int), _, rfl, by rw [Int.zero_add], SqL.of (t3 _ _ d1), atI_nat evp, tp, _, 2, _, rfl, rfl, w1, rfl, wb, xb, (z.sta : Int), _, rfl, rfl, SqL.of (t3 _ _ b1), atI_nat evt, tt, _, 1, _, rfl, rfl, w2, rfl, st, zt.antennas, rfl, by omega, hst3, fun u u0 u1 => ?_⟩
          exact ⟨rfl, .ant u, .int u, rfl, ⟨u0, by omega⟩, .int u⟩
        · exact ⟨rfl, .non, .non, rfl, True.intro, .non⟩
      obtain ⟨rfl, e, v, rfl, eok, edp⟩ := hm
      refine ⟨fun σ' H' => H' = H4 ∧ ∃ (e : EntT) (v : V), σ' = [some (.ref a), some (.int first), some (.ref wd), some (.bl o), some (.ref st), some (.ref D), y6, y7, some (.int kd), some v, some (.ref F), some (.int (0 + (i : Int)))] ∧ TOk o e ∧ Dp K H' v (entT e), ?_, fun σ' H5 hm => ?_⟩
      · refine ⟨_, rfl, rfl, _, rfl, ite2 (fun k1 => ⟨_, rfl, st, 4, rfl, by decide, hst3, fun u u0 u1 => ⟨rfl, _, rfl, ite2 (fun k2 => ?_) (fun k2 => ?_)⟩⟩) (fun k1 => iteF ?_)⟩
        · exact ⟨_, rfl, st, 5, rfl, by decide, hst3, fun x x0 x1 => ⟨_, _, rfl, rfl, rfl, .ant (1 + x), .int (1 + x), rfl, ⟨by omega, by omega⟩, .int _⟩⟩
        · exact ⟨rfl, e, v, rfl, eok, edp⟩
        · exact ⟨rfl, e, v, rfl, eok, edp⟩
      obtain ⟨rfl, e, v, rfl, eok, edp⟩ := hm
      refine ⟨fun σ' H' => H' = H5 ∧ ∃ (e : EntT) (v : V), σ' = [some (.ref a), some (.int first), some (.ref wd), some (.bl o), some (.ref st), some (.ref D), y6, y7, some (.int kd), some v, some (.ref F), some (.int (0 + (i : Int)))] ∧ TOk o e ∧ Dp K H' v (entT e), ?_, fun σ' H6 hm => ?_⟩
      · refine ⟨_, rfl, o, rfl, ite2 (fun k1 => ⟨_, rfl, st, 3, rfl, by decide, hst3, fun u u0 u1 => ⟨rfl, _, rfl, ite2 (fun k2 => ?_) (fun k2 => ?_)⟩⟩) (fun k1 => iteF ?_)⟩
        · exact ⟨rfl, .opn, .str "open", rfl, k1, .str _⟩
        · exact ⟨rfl, e, v, rfl, eok, edp⟩
        · exact ⟨rfl, e, v, rfl, eok, edp⟩
      obtain ⟨rfl, e, v, rfl, eok, edp⟩ := hm
      refine ⟨_, rfl, .inl ⟨rfl, _, SqL.of hFF⟩, _, rfl, F, ys, v, rfl, rfl, hFF, small1000 (by omega), ?_⟩
      refine ⟨fs ++ [e], ys ++ [v], _, _, _, rfl, upd_same, by rw [List.length_append, List.length_singleton, hyl], ?_, all_snoc hok2 eok, by rw [List.length_append, List.length_singleton, hfl], same_at hF hq _⟩
      rw [List.map_append]
      exact dpAll_snoc (dpTs_up (noLs_map noL_entT fs) hFF hdq) (dpT_up (noL_entT e) hFF edp)
    · obtain ⟨fs, ys, y8, y9, y11, rfl, hFF, hyl, hdq, hok2, hfl, hq⟩ := hI
      refine ⟨_, rfl, D, xs, rfl, .inl ⟨SqL.of (hq _ _ hDD), fun t1 ht1 => ?_⟩⟩
      have v1 := same_new ht1 (.tup xs)
      refine ⟨_, rfl, F, ys, rfl, .inl ⟨SqL.of (v1 _ _ hFF), fun t2 ht2 => ⟨sz2_, fun t3 ht3 => ?_⟩⟩⟩
      have v2 := same_new ht2 (.tup ys)
      have v3 := same_new ht3 (.tup [.ref t1, .ref t2])
      refine q (.ref t3) _ ⟨es, fs⟩ (s1.trans (hs.trans (hq.trans (v1.trans (v2.trans v3))))) ⟨by show es.length = _; omega, by show fs.length = _; omega, hok, hok2⟩ ?_
      exact .tup (SqT.of upd_same) (.cons (.tup (SqT.of ((v2.trans v3) _ _ upd_same)) (dpAll_same (hq.trans (v1.trans (v2.trans v3))) hdp)) (.cons (.tup (SqT.of (v3 _ _ upd_same)) (dpAll_same (v1.trans (v2.trans v3)) hdq)) .nil))
end
end DP
namespace DP
open PySem PySem.Spec PyProof.Rows L2
theorem tuple_mul_one (l : Addr) (items : Array Value) (n : Nat) (dd : Option Addr) (sl : Array (Option Value)) (u : Tok) :
    Meets (Builtin.«tuple.__mul__» ⟨[.ref l, .int 1 u], []⟩) (fun _ R s => s.heap.get? l = some { cls := .type "tuple", dict := dd, data := .seq items n, slots := sl } ∧ R (.ok (.ret (.ref l))) s) :=
  .of_wp fun prog w A R s h => by
    obtain ⟨hp, g, d, tk, os⟩ := s
    obtain ⟨hl, h⟩ := h
    have f1 := AutoSeq1.idx_int
    have c1 : (items.isEmpty || (1 : Int) == 1) = true := by rw [show ((1 : Int) == 1) = true from rfl, Bool.or_true]
    wp_walk using wpAny_loadPart' hl
    exact ⟨_, rfl, h⟩
theorem tuple_mul_zero (l : Addr) (items : Array Value) (n : Nat) (dd : Option Addr) (sl : Array (Option Value)) (u : Tok) (hi : items.isEmpty = false) :
    Meets (Builtin.«tuple.__mul__» ⟨[.ref l, .int 0 u], []⟩) (fun _ R s => s.heap.get? l = some { cls := .type "tuple", dict := dd, data := .seq items n, slots := sl } ∧ R (.ok (.ret (.ref s.heap.objs.size))) { s with heap := s.heap.push { cls := Value.type "tuple", data := Data.seq #[] }, toks := s.toks }) :=
  .of_wp fun prog w A R s h => by
    obtain ⟨hp, g, d, tk, os⟩ := s
    obtain ⟨hl, h⟩ := h
    have f1 := AutoSeq1.idx_int
    have c1 : (items.isEmpty || (0 : Int) == 1) = false := by rw [hi]; rfl
    wp_walk using wpAny_loadPart' hl
    repeat (first
      | (refine wpAny_ite_false (decide_eq_false (by rw [c1]; exact Bool.false_ne_true)) ?_; wp_walk using wpAny_loadPart' hl))
    exact ⟨_, rfl, h⟩
theorem op_inDT {X : Cx} (hu : X.A.units + 65 < cLine) : OpR X (compareOp .In) (fun x y H Q => ∃ d ds, Dp X.K H x d ∧ Dp X.K H y (.tuple ds) ∧ SeqAt.shaped d = true ∧ SeqAt.shaped (.tuple ds) = true ∧ Q (.bl (ds.any fun z => PyData.eqv z d)) H) := by
  intro pins s σ H x y v u Q I rx ry h
  obtain ⟨d, ds, hd, he, sd, se, q⟩ := h
  obtain ⟨as, r1⟩ := Dp.reads I d x v hd rx
  obtain ⟨bs, r2⟩ := Dp.reads I (.tuple ds) y u he ry
  exact SeqAt.in_tuple_reads r2 r1 (SeqAt.canLay_of_shaped se) (SeqAt.canLay_of_shaped sd) (room_in_shaped sd hu) ⟨.bl _, H, I, rfl, q⟩
def rRepN (K : PySem.W.Frag) : R2 := fun x y H Q => ∃ l k xs, x = .ref l ∧ y = .int k ∧ SqT K H l xs ∧ xs ≠ [] ∧ 0 ≤ k ∧ k ≤ 1000 ∧ xs.length ≤ 1000 ∧ (k = 1 → Q (.ref l) H) ∧ (k ≠ 1 → ∀ p, H p = none → Q (.ref p) (upd H p (.tup (List.replicate k.toNat xs).flatten)))
theorem op_repN {X : Cx} : OpR X (binaryOp .Mult) (rRepN X.K) := by
  intro pins s σ H x y v u Q I rx ry h
  obtain ⟨l, k, xs, rfl, rfl, hT, hne, h1, h2, hz, q1, q2⟩ := h
  by_cases c : 2 ≤ k
  · exact op_repT pins s σ H _ _ v u Q I rx ry ⟨l, k, xs, rfl, rfl, hT, hne, c, h2, hz, q2 (by omega)⟩
  have e : k = 0 ∨ k = 1 := by omega
  cases rx
  obtain ⟨t, rfl⟩ := ry
  obtain ⟨its, r, ⟨⟨cls, dd, data, sl⟩, ho, hc, n, hd⟩, hs⟩ := I.tuple hT
  simp only at hc hd
  subst hc hd
  have hle : its.length = xs.length := r.length.symm
  have hi : its.toArray.isEmpty = false := by
    cases its with
    | nil => exact absurd (List.eq_nil_of_length_eq_zero hle.symm) hne
    | cons a b => rfl
  rcases e with rfl | rfl
  · refine wpAny_binaryOp_repeat_ref (T := "tuple") (U := "int") (by decide) ⟨_, ho, rfl⟩ (fun s' => typeIs_int s' 0 t) noFill_tuple_mul F.fills_int_mul F.slot_int_rmul repeat_tuple F.slot_int_index.lookup
      (call_meets F.slot_int_rmul (typeIs_int s 0 t) F.entry_int_rmul (F.args_int_rmul_2 _ _) (int_rmul_tuple 0 t l its.toArray n dd sl)
        ⟨ho, rfl, ⟨_, ho, rfl⟩, call_meets F.slot_tuple_mul ⟨_, ho, rfl⟩ F.entry_tuple_mul (F.args_tuple_mul_2 _ _) (tuple_mul_zero l its.toArray n dd sl t hi) ⟨ho, ?_⟩⟩)
    refine ⟨.ref s.heap.objs.size, _, I.laid (t' := s.toks) (o := .tup []) (fun b ob q => Heap.get?_push_of_some _ q) (Nat.le_refl _) ?_, rfl, q2 (by decide) _ (I.hok.fresh (Nat.le_refl _))⟩
    exact ⟨Nat.zero_le _, [], .nil, IsTup.new _ _⟩
  · refine wpAny_binaryOp_repeat_ref (T := "tuple") (U := "int") (by decide) ⟨_, ho, rfl⟩ (fun s' => typeIs_int s' 1 t) noFill_tuple_mul F.fills_int_mul F.slot_int_rmul repeat_tuple F.slot_int_index.lookup
      (call_meets F.slot_int_rmul (typeIs_int s 1 t) F.entry_int_rmul (F.args_int_rmul_2 _ _) (int_rmul_tuple 1 t l its.toArray n dd sl)
        ⟨ho, rfl, ⟨_, ho, rfl⟩, call_meets F.slot_tuple_mul ⟨_, ho, rfl⟩ F.entry_tuple_mul (F.args_tuple_mul_2 _ _) (tuple_mul_one l its.toArray n dd sl t) ⟨ho, ?_⟩⟩)
    exact ⟨.ref l, H, I, rfl, q1 rfl⟩
end DP
namespace DP
open PySem PySem.Spec PyProof.Rows L2
theorem sz1_ : 1 ≤ sizeLine := by decide
theorem any_open {ms : List EntM} {W : WorldD} (h : ∀ e ∈ ms, MOk W false e) : (ms.map entM).any (fun z => PyData.eqv z (.str "open")) = false := by
  rw [List.any_eq_false]
  intro z hz
  obtain ⟨e, he, rfl⟩ := List.mem_map.mp hz
  have := h e he
  cases e with
  | non => exact Bool.false_ne_true
  | opn => exact absurd this Bool.false_ne_true
  | at_ s p => exact Bool.false_ne_true
theorem any_openT {ts : List EntT} (h : ∀ e ∈ ts, TOk false e) : (ts.map entT).any (fun z => PyData.eqv z (.str "open")) = false := by
  rw [List.any_eq_false]
  intro z hz
  obtain ⟨e, he, rfl⟩ := List.mem_map.mp hz
  have := h e he
  cases e with
  | non => exact Bool.false_ne_true
  | opn => exact absurd this Bool.false_ne_true
  | ant n => exact Bool.false_ne_true
theorem hu65 {k : Nat} {A : Around} (hr : Room k A) : A.units + 65 < cLine := by have := hr.un; omega
theorem lay_map {α : Type} {f : α → PyData} (h : ∀ a, (f a).canLay0 = true) : ∀ l : List α, PyData.canLayAll0 (l.map f) = true
  | [] => rfl
  | a :: r => by
    show ((f a).canLay0 && PyData.canLayAll0 (r.map f)) = true
    rw [h a, lay_map h r]
    rfl
theorem depth_map {α : Type} {f : α → PyData} {n : Nat} (h : ∀ a, (f a).depth ≤ n) : ∀ l : List α, PyData.depthAll (l.map f) ≤ n
  | [] => Nat.zero_le _
  | a :: r => by
    show max (f a).depth (PyData.depthAll (r.map f)) ≤ n
    exact Nat.max_le.mpr ⟨h a, depth_map h r⟩
theorem shp_map {α : Type} {f : α → PyData} (h : ∀ a, (f a).canLay0 = true) (k : ∀ a, (f a).depth ≤ 1) (l : List α) : SeqAt.shaped (.tuple (l.map f)) = true := by
  unfold SeqAt.shaped
  rw [show (PyData.tuple (l.map f)).canLay0 = PyData.canLayAll0 (l.map f) from rfl, lay_map h, Bool.true_and]
  refine decide_eq_true ?_
  have := depth_map k l
  show PyData.depthAll (l.map f) + 1 ≤ 64
  omega
theorem shp_made (ms : List EntM) : SeqAt.shaped (.tuple (ms.map entM)) = true := shp_map (fun a => by cases a <;> first | rfl | decide +kernel) (fun a => by cases a <;> first | exact Nat.zero_le _ | exact Nat.le_refl _) ms
theorem shp_taken (ms : List EntT) : SeqAt.shaped (.tuple (ms.map entT)) = true := shp_map (fun a => by cases a <;> first | rfl | decide +kernel) (fun a => by cases a <;> exact Nat.zero_le _) ms
theorem walk_zipT {K : PySem.W.Frag} {a b : Addr} {xs ys : List V} (hl : xs.length = ys.length) :
    Walk (RZ.ItzT K a b) xs.length (fun H => SqT K H a xs ∧ SqT K H b ys) (fun i H v H' => ∃ T x y, v = .ref T ∧ H T = none ∧ H' = upd H T (.tup [x, y]) ∧ xs[i]? = some x ∧ ys[i]? = some y) :=
  ⟨fun i H hi q => ⟨xs, ys, xs[i], ys[i]'(by omega), q.1, q.2, List.getElem?_eq_getElem hi, List.getElem?_eq_getElem (by omega)⟩, fun H q => ⟨xs, ys, q.1, q.2, .inl (Nat.le_refl _)⟩, fun i H v H' hi q ⟨T, x, y, e1, e2, e3, e4, e5⟩ => ⟨T, x, y, e1, e2, e3, e4 xs q.1, e5 ys q.2⟩⟩
theorem hu64 {k : Nat} {A : Around} (hr : Room k A) : A.units + 64 < cLine := by have := hr.un; omega
theorem case_two {K : PySem.W.Frag} {H : Hp} {v : V} {c : CaseD} (h : Dp K H v (casePy c)) : ∃ t tm tt xm xt, v = .ref t ∧ SqT K H t [.ref tm, .ref tt] ∧ SqT K H tm xm ∧ SqT K H tt xt ∧ DpAll K H xm (c.made.map entM) ∧ DpAll K H xt (c.taken.map entT) ∧ xm.length = c.made.length ∧ xt.length = c.taken.length := by
  obtain ⟨t, xs, rfl, ht, hx⟩ := dp_tup h
  cases hx with
  | cons a0 hx =>
  cases hx with
  | cons a1 hx =>
  cases hx
  obtain ⟨tm, xm, rfl, hm, hxm⟩ := dp_tup a0
  obtain ⟨tt, xt, rfl, htt, hxt⟩ := dp_tup a1
  have lm := dpAll_len hxm
  have lt := dpAll_len hxt
  rw [List.length_map] at lm lt
  exact ⟨t, tm, tt, xm, xt, rfl, ht, hm, htt, hxm, hxt, lm, lt⟩
structure TxtO (mg : Str → Option Value) : Prop where
  g_OPEN : ∃ t, mg "OPEN" = some (.str "open" t)
end DP
namespace DP
open PySem PySem.Spec PyProof.Rows L2
theorem ip_mul {X : Cx} : PIp X .Mult (rI CMul fun i j => .int (i * j)) := iop_mul
end DP
namespace DP
open PySem PySem.Spec PyProof.Rows L2
abbrev s_base_of : Stmt := topS 57
theorem sc_base_of : FnScope ["world", "worths", "fees", "recording", "chance"] ["world"] (defScope s_base_of) := ⟨rfl, rfl, rfl, by decide +kernel, rfl, by decide +kernel, by decide +kernel⟩
abbrev s_recording_weight : Stmt := topS 58
theorem sc_recording_weight : FnScope ["world", "r", "recording", "base", "weight", "_"] ["world", "r"] (defScope s_recording_weight) := ⟨rfl, rfl, rfl, by decide +kernel, rfl, by decide +kernel, by decide +kernel⟩
def sumW (W : WorldD) : Int := (W.recs.map (·.worth)).sum
def sumF (W : WorldD) : Int := (W.pass.map (·.fee)).sum
def baseW (W : WorldD) : Int := 1 + (if sumF W > sumW W then sumF W else sumW W)
def recW (W : WorldD) (z : RecD) : Int := z.worth * baseW W ^ (4 - z.rank).toNat
theorem sum_bound {α : Type} {f : α → Int} {m : Int} (hm : 0 ≤ m) : ∀ {l : List α}, (∀ a ∈ l, 0 ≤ f a ∧ f a ≤ m) → 0 ≤ (l.map f).sum ∧ (l.map f).sum ≤ m * l.length
  | [], _ => by
    show (0 : Int) ≤ 0 ∧ (0 : Int) ≤ m * ((0 : Nat) : Int)
    simp
  | a :: l, h => by
    have ih := sum_bound hm (l := l) fun b hb => h b (List.mem_cons_of_mem _ hb)
    have h1 := h a List.mem_cons_self
    rw [List.map_cons, List.sum_cons, List.length_cons, show m * ((l.length + 1 : Nat) : Int) = m * (l.length : Int) + m by rw [Int.natCast_add, Int.mul_add]; simp]
    omega
theorem base_pos {W : WorldD} (wok : WorldOk W) : 1 ≤ baseW W ∧ baseW W ≤ 10001 ∧ sumW W < baseW W ∧ sumF W < baseW W ∧ 0 ≤ sumW W ∧ 0 ≤ sumF W := by
  have h1 : 0 ≤ sumW W ∧ sumW W ≤ 1000 * (W.recs.length : Int) := sum_bound (f := fun z : RecD => z.worth) (by decide) fun z hz => by have := (wok.recs z hz).worth; omega
  have h2 : 0 ≤ sumF W ∧ sumF W ≤ 1000 * (W.pass.length : Int) := sum_bound (f := fun z : PasD => z.fee) (by decide) fun z hz => by have := (wok.pass z hz).fee; omega
  have h3 := wok.nRecs
  have h4 := wok.nPass
  unfold baseW
  split <;> omega
theorem take_map_succ {α : Type} {f : α → Int} {l : List α} {i : Nat} {a : α} (h : l[i]? = some a) : (l.take (i + 1)).map f = (l.take i).map f ++ [f a] := by
  rw [List.take_add_one, h, Option.toList_some, List.map_append]
  rfl
section
variable {P : Program} {w : World} {K : PySem.W.Frag} {mg : Str → Option Value} {base : Heap} {CL CS CT CR CP CW aS aR fS fT fR fP : Addr}
/-- one more in the new list of a comprehension -/
theorem lc_step {α : Type} {f : α → Int} {l : List α} {i : Nat} {a : α} {H0 H' : Hp} {D : Addr} (h : l[i]? = some a) (n : l.length ≤ 1000) (hD : H0 D = none) (hs : Same H0 H') (hd : H' D = some (.lst (((l.take i).map f).map V.int))) :
    ∃ acc, H' D = some (.lst acc) ∧ acc.length < sizeLine ∧ Same H0 (upd H' D (.lst (acc ++ [.int (f a)]))) ∧ (upd H' D (.lst (acc ++ [.int (f a)]))) D = some (.lst (((l.take (i + 1)).map f).map V.int)) := by
  have hi := (List.getElem?_eq_some_iff.mp h).1
  refine ⟨_, hd, by rw [List.length_map, List.length_map, List.length_take]; exact small1000 (by omega), same_at hD hs _, ?_⟩
  rw [upd_same, take_map_succ h, List.map_append]
  rfl
theorem lc_snoc {ns : List Int} {v : Int} {H0 H' : Hp} {D : Addr} (n : ns.length ≤ 1000) (hD : H0 D = none) (hs : Same H0 H') (hd : H' D = some (.lst (ns.map V.int))) :
    ∃ acc, H' D = some (.lst acc) ∧ acc.length < sizeLine ∧ Same H0 (upd H' D (.lst (acc ++ [.int v]))) ∧ (upd H' D (.lst (acc ++ [.int v]))) D = some (.lst ((ns ++ [v]).map V.int)) := by
  refine ⟨_, hd, by rw [List.length_map]; exact small1000 (by omega), same_at hD hs _, ?_⟩
  rw [upd_same, List.map_append]
  rfl
def spBase (K : PySem.W.Frag) (CS CT CR CP CW : Addr) : Sp := fun vs H Q _ => ∃ (ac : Addr) (W : WorldD), vs = [.ref ac] ∧ WorldOk W ∧ WorldAt K CS CT CR CP CW H ac W ∧ ∀ H', Same H H' → Q (.int (baseW W)) H'
theorem d_base_of (T : TxtW K mg CL CS CT CR CP CW aS aR fS fT fR fP) (A : At K mg "base_of" s_base_of ["world"]) : DefOk P w K mg base CX0 1 "base_of" ["world"] (spBase K CS CT CR CP CW) := by
  have B := T.L.B
  refine A.ok sc_base_of (fun vs H Q E h => ?_) (fun f cdv A outer s H vs Q E hr h => ?_)
  · obtain ⟨ac, W, rfl, _⟩ := h
    rfl
  obtain ⟨ac, W, rfl, wok, hW, q⟩ := h
  obtain ⟨dx, t0, t1, t2, t3, x0, x1, x2, x3, gw, _, _, _, _, p2, q2, p3, q3⟩ := hW.ex
  have l2 := paired_len q2
  have l3 := paired_len q3
  have nR := wok.nRecs
  have nP := wok.nPass
  refine ⟨_, pss_cons (ps_set (i := 1) sc_base_of.nd rfl (Or.inl rfl) (pe_callB (cr_sum rfl) (by rfl) B.sum (by decide +kernel) (pa_cons (pe_lc (own := [("recording", 3)])  rfl sc_base_of.nd (pi_tup (pe_fld (pv 0) rfl)) (blkOk_by (own := [("recording", 3)]) (N := ["world", "worths", "fees", "recording", "chance"]) (sc := defScope s_base_of) (by decide +kernel)) (fun _ _ _ _ _ => pg_name (i := 3) sc_base_of.nd rfl (Or.inl rfl)) (fun _ _ _ _ _ => pts_nil) (fun _ _ _ _ _ => (pe_fldK (K := K) rfl (pv 3) rfl))) pa_nil)))
  (pss_cons (ps_set (i := 2) sc_base_of.nd rfl (Or.inl rfl) (pe_callB (cr_sum rfl) (by rfl) B.sum (by decide +kernel) (pa_cons (pe_lc (own := [("chance", 4)])  rfl sc_base_of.nd (pi_tup (pe_fld (pv 0) rfl)) (blkOk_by (own := [("chance", 4)]) (N := ["world", "worths", "fees", "recording", "chance"]) (sc := defScope s_base_of) (by decide +kernel)) (fun _ _ _ _ _ => pg_name (i := 4) sc_base_of.nd rfl (Or.inl rfl)) (fun _ _ _ _ _ => pts_nil) (fun _ _ _ _ _ => (pe_fldK (K := K) rfl (pv 4) rfl))) pa_nil)))
  (pss_one (ps_ret (pe_op op_add pe_int (pe_callB (call_max2 rfl) (by rfl) B.max (by decide +kernel) (pa_cons (pv 1) (pa_cons (pv 2) pa_nil)))))))
    , ?_⟩
  refine ⟨_, rfl, ac, CW, dx, _, _, rfl, gw, T.c_World.cl, T.n_World_recordings, lk_World_recordings, t2, rfl, ⟨_, p2⟩, fun D hD => lc_tup (K := K) (a := t2) (xs := x2) (fun i H' => Same H H' ∧ H' D = some (.lst (((W.recs.take i).map (·.worth)).map V.int))) ⟨same_new hD _, upd_same⟩ (fun i H' _ hI => Same.tup hI.1 p2) (fun i x H' hx hI => ?_) (fun H1 hI => ?_)⟩
  · obtain ⟨hs, hd⟩ := hI
    obtain ⟨z, hz, ob, od, rfl, o1⟩ := paired_at q2 hx
    exact ⟨rfl, _, rfl, ob, CR, od, _, _, rfl, hs _ _ o1, T.c_Recording.cl, T.n_Recording_worth, lk_Recording_worth, lc_step hz (by omega) hD hs hd⟩
  obtain ⟨s1, hd⟩ := hI
  rw [l2, List.take_length] at hd
  refine ⟨D, W.recs.map (·.worth), rfl, SqL.of hd, ?_⟩
  refine ⟨_, rfl, ac, CW, dx, _, _, rfl, s1 _ _ gw, T.c_World.cl, T.n_World_passes, lk_World_passes, t3, rfl, ⟨_, Same.tup s1 p3⟩, fun F hF => lc_tup (K := K) (a := t3) (xs := x3) (fun i H' => Same H1 H' ∧ H' F = some (.lst (((W.pass.take i).map (·.fee)).map V.int))) ⟨same_new hF _, upd_same⟩ (fun i H' _ hI => Same.tup (s1.trans hI.1) p3) (fun i x H' hx hI => ?_) (fun H2 hI => ?_)⟩
  · obtain ⟨hs, hd⟩ := hI
    obtain ⟨z, hz, pb, pd, ts, rfl, c1, c2⟩ := paired_at q3 hx
    exact ⟨rfl, _, rfl, pb, CP, pd, _, _, rfl, (s1.trans hs) _ _ c1, T.c_Pass.cl, T.n_Pass_fee, lk_Pass_fee, lc_step hz (by omega) hF hs hd⟩
  obtain ⟨s2, hd⟩ := hI
  rw [l3, List.take_length] at hd
  refine ⟨F, W.pass.map (·.fee), rfl, SqL.of hd, ?_⟩
  exact ⟨_, rfl, _, rfl, _, _, rfl, _, _, rfl, rfl, q _ (s1.trans s2)⟩
def spRecW (K : PySem.W.Frag) (CS CT CR CP CW : Addr) : Sp := fun vs H Q _ => ∃ (ac : Addr) (W : WorldD) (i : Nat) (z : RecD), vs = [.ref ac, .int (i : Int)] ∧ WorldOk W ∧ WorldAt K CS CT CR CP CW H ac W ∧ W.recs[i]? = some z ∧ ∀ H', Same H H' → Q (.int (recW W z)) H'
theorem d_recording_weight (T : TxtW K mg CL CS CT CR CP CW aS aR fS fT fR fP) (D_base_of : DefOk P w K mg base CX0 1 "base_of" ["world"] (spBase K CS CT CR CP CW)) (A : At K mg "recording_weight" s_recording_weight ["world", "r"]) : DefOk P w K mg base CX0 2 "recording_weight" ["world", "r"] (spRecW K CS CT CR CP CW) := by
  have B := T.L.B
  refine A.ok sc_recording_weight (fun vs H Q E h => ?_) (fun f cdv A outer s H vs Q E hr h => ?_)
  · obtain ⟨ac, W, i, z, rfl, _⟩ := h
    rfl
  obtain ⟨ac, W, i, z, rfl, wok, hW, hz, q⟩ := h
  obtain ⟨dx, t0, t1, t2, t3, x0, x1, x2, x3, gw, _, _, _, _, p2, q2, p3, q3⟩ := hW.ex
  have l2 := paired_len q2
  have hi : i < W.recs.length := (List.getElem?_eq_some_iff.mp hz).1
  obtain ⟨x, hx⟩ : ∃ x, x2[i]? = some x := ⟨_, List.getElem?_eq_getElem (by omega)⟩
  obtain ⟨z', hz', ob, od, rfl, o1⟩ := paired_at q2 hx
  rw [hz] at hz'
  have ez := Option.some.inj hz'
  subst ez
  have ok := wok.recs z (List.mem_of_getElem? hz)
  have rk := ok.rank
  have b := base_pos wok
  refine ⟨_, pss_cons (ps_set (i := 2) sc_recording_weight.nd rfl (Or.inl rfl) (pe_ix ix_tup (pe_fld (pv 0) rfl) (pv 1) (fun _ _ => rfl)))
  (pss_cons (ps_set (i := 3) sc_recording_weight.nd rfl (Or.inl rfl) (pe_f D_base_of (hr.mono (by omega)) pass0 (pa_cons (pv 0) pa_nil)))
  (pss_cons (ps_set (i := 4) sc_recording_weight.nd rfl (Or.inl rfl) (pe_fld (pv 2) rfl))
  (pss_cons (ps_for PassesOwn.never rfl (pi_range1 (by rfl) B.range (pa_cons (pe_op op_sub pe_int (pe_fld (pv 2) rfl)) pa_nil)) (pg_name (i := 5) sc_recording_weight.nd rfl (Or.inl rfl))
      (pss_one (ps_aug (i := 4) sc_recording_weight.nd rfl (Or.inl rfl) (pv 3) ip_mul)))
  (pss_one (ps_ret (pv 4))))))
    , ?_⟩
  refine ⟨_, rfl, ac, CW, dx, _, _, rfl, gw, T.c_World.cl, T.n_World_recordings, lk_World_recordings, _, rfl, t2, x2, (i : Int), _, rfl, rfl, p2, atI_nat hx, ?_⟩
  refine ⟨_, rfl, ac, W, rfl, wok, hW, fun H1 s1 => ?_⟩
  refine ⟨_, rfl, ob, CR, od, _, _, rfl, s1 _ _ o1, T.c_Recording.cl, T.n_Recording_worth, lk_Recording_worth, ?_⟩
  refine ⟨_, rfl, ob, CR, od, _, _, rfl, s1 _ _ o1, T.c_Recording.cl, T.n_Recording_rank, lk_Recording_rank, _, _, rfl, rfl, 4 - z.rank, rfl, by omega, by omega, for_range (lo := 0) (n := (4 - z.rank).toNat) (fun j σ H' => ∃ y5, σ = [some (.ref ac), some (.int (i : Int)), some (.ref ob), some (.int (baseW W)), some (.int (z.worth * baseW W ^ j)), y5] ∧ H' = H1)
    ⟨none, by rw [Int.pow_zero, Int.mul_one]; rfl, rfl⟩ (fun j σ H' hj hI => ?_) (fun σ H' hI => ?_)⟩
  · obtain ⟨y5, rfl, rfl⟩ := hI
    refine ⟨_, rfl, _, rfl, _, _, rfl, rfl, .inr ⟨by omega, by omega⟩, some (.int (0 + (j : Int))), ?_, rfl⟩
    rw [Int.pow_succ, ← Int.mul_assoc]
    rfl
  · obtain ⟨y5, rfl, rfl⟩ := hI
    exact ⟨_, rfl, q _ s1⟩
end
end DP
namespace DP
open PySem PySem.Spec PyProof.Rows L2
abbrev s_fees_of : Stmt := topS 56
theorem sc_fees_of : FnScope ["world", "taken", "chance", "entry"] ["world", "taken"] (defScope s_fees_of) := ⟨rfl, rfl, rfl, by decide +kernel, rfl, by decide +kernel, by decide +kernel⟩
abbrev s_weight_of : Stmt := topS 59
theorem sc_weight_of : FnScope ["world", "plan", "made", "taken", "weights", "r", "entry"] ["world", "plan"] (defScope s_weight_of) := ⟨rfl, rfl, rfl, by decide +kernel, rfl, by decide +kernel, by decide +kernel⟩
/-- some entries are not None -/
def onM (e : EntM) : Bool := match e with
  | .non => false
  | _ => true
def onT (e : EntT) : Bool := match e with
  | .non => false
  | _ => true
def recAt (W : WorldD) (c : CaseD) (g : RecD → Option Int) (k : Nat) : List Int := match W.recs[k]?, c.made[k]? with
  | some z, some e => if onM e = true then (g z).toList else []
  | _, _ => []
def recL (W : WorldD) (c : CaseD) (g : RecD → Option Int) (i : Nat) : List Int := (List.range i).flatMap (recAt W c g)
def feeAt (W : WorldD) (c : CaseD) (k : Nat) : List Int := match W.pass[k]?, c.taken[k]? with
  | some z, some e => if onT e = true then [z.fee] else []
  | _, _ => []
def feeL (W : WorldD) (c : CaseD) (i : Nat) : List Int := (List.range i).flatMap (feeAt W c)
def feesW (W : WorldD) (c : CaseD) : Int := (feeL W c W.pass.length).sum
def rk (k : Int) (z : RecD) : Option Int := if z.rank = k then some z.worth else none
def weightW (W : WorldD) (c : CaseD) : Int := (recL W c (fun z => some (recW W z)) W.recs.length).sum - feesW W c
theorem recL_succ (W : WorldD) (c : CaseD) (g : RecD → Option Int) (i : Nat) : recL W c g (i + 1) = recL W c g i ++ recAt W c g i := by
  unfold recL
  rw [List.range_succ, List.flatMap_append, List.flatMap_cons, List.flatMap_nil, List.append_nil]
theorem feeL_succ (W : WorldD) (c : CaseD) (i : Nat) : feeL W c (i + 1) = feeL W c i ++ feeAt W c i := by
  unfold feeL
  rw [List.range_succ, List.flatMap_append, List.flatMap_cons, List.flatMap_nil, List.append_nil]
theorem recAt_some {W : WorldD} {c : CaseD} {g : RecD → Option Int} {k : Nat} {z : RecD} {e : EntM} (h : W.recs[k]? = some z) (h' : c.made[k]? = some e) : recAt W c g k = if onM e = true then (g z).toList else [] := by
  unfold recAt
  rw [h, h']
theorem feeAt_some {W : WorldD} {c : CaseD} {k : Nat} {z : PasD} {e : EntT} (h : W.pass[k]? = some z) (h' : c.taken[k]? = some e) : feeAt W c k = if onT e = true then [z.fee] else [] := by
  unfold feeAt
  rw [h, h']
theorem recAt_len (W : WorldD) (c : CaseD) (g : RecD → Option Int) (k : Nat) : (recAt W c g k).length ≤ 1 := by
  unfold recAt
  split
  · split
    · cases g _ <;> simp
    · exact Nat.zero_le _
  · exact Nat.zero_le _
theorem recL_len (W : WorldD) (c : CaseD) (g : RecD → Option Int) : ∀ i, (recL W c g i).length ≤ i
  | 0 => Nat.zero_le _
  | i + 1 => by
    rw [recL_succ, List.length_append]
    have h1 := recL_len W c g i
    have h2 := recAt_len W c g i
    omega
theorem feeL_len (W : WorldD) (c : CaseD) : ∀ i, (feeL W c i).length ≤ i
  | 0 => Nat.zero_le _
  | i + 1 => by
    rw [feeL_succ, List.length_append]
    have h1 := feeL_len W c i
    have h2 : (feeAt W c i).length ≤ 1 := by
      unfold feeAt
      split
      · split <;> simp
      · exact Nat.zero_le _
    omega
theorem non_entM {K : PySem.W.Frag} {H : Hp} {v : V} {e : EntM} (h : Dp K H v (entM e)) : (!decide (v = V.non)) = onM e := by
  cases e with
  | non => cases h; rfl
  | opn => cases h; rfl
  | at_ s p => obtain ⟨t, xs, rfl, _⟩ := dp_tup h; rfl
theorem non_entT {K : PySem.W.Frag} {H : Hp} {v : V} {e : EntT} (h : Dp K H v (entT e)) : (!decide (v = V.non)) = onT e := by
  cases e with
  | non => cases h; rfl
  | opn => cases h; rfl
  | ant n => cases h; rfl
section
variable {P : Program} {w : World} {K : PySem.W.Frag} {mg : Str → Option Value} {base : Heap} {CL CS CT CR CP CW aS aR fS fT fR fP : Addr}
def spFees (K : PySem.W.Frag) (CS CT CR CP CW : Addr) : Sp := fun vs H Q _ => ∃ (ac tt : Addr) (W : WorldD) (xt : List V) (c : CaseD), vs = [.ref ac, .ref tt] ∧ WorldOk W ∧ WorldAt K CS CT CR CP CW H ac W ∧ SqT K H tt xt ∧ DpAll K H xt (c.taken.map entT) ∧ c.taken.length = W.pass.length ∧ ∀ H', Same H H' → Q (.int (feesW W c)) H'
theorem d_fees_of (T : TxtW K mg CL CS CT CR CP CW aS aR fS fT fR fP) (A : At K mg "fees_of" s_fees_of ["world", "taken"]) : DefOk P w K mg base CX0 1 "fees_of" ["world", "taken"] (spFees K CS CT CR CP CW) := by
  have B := T.L.B
  refine A.ok sc_fees_of (fun vs H Q E h => ?_) (fun f cdv A outer s H vs Q E hr h => ?_)
  · obtain ⟨ac, tt, W, xt, c, rfl, _⟩ := h
    rfl
  obtain ⟨ac, tt, W, xt, c, rfl, wok, hW, htt, hxt, nT, q⟩ := h
  obtain ⟨dx, t0, t1, t2, t3, x0, x1, x2, x3, gw, _, _, _, _, p2, q2, p3, q3⟩ := hW.ex
  have l3 := paired_len q3
  have lt := dpAll_len hxt
  rw [List.length_map] at lt
  have nP := wok.nPass
  refine ⟨_, pss_one (ps_ret (pe_callB (cr_sum rfl) (by rfl) B.sum (by decide +kernel) (pa_cons (pe_lc (own := [("chance", 2), ("entry", 3)])  rfl sc_fees_of.nd (RZ.pi_zipA (by rfl) B.zip (pa_cons (pe_fld (pv 0) rfl) (pa_cons (pv 1) pa_nil))) (blkOk_by (own := [("chance", 2), ("entry", 3)]) (N := ["world", "taken", "chance", "entry"]) (sc := defScope s_fees_of) (by decide +kernel)) (fun _ _ _ _ _ => pg_tupK (K := K) (n := 2) rfl (by rfl) (pgs_cons (pg_name (i := 2) sc_fees_of.nd rfl (Or.inl rfl)) (pgs_cons (pg_name (i := 3) sc_fees_of.nd rfl (Or.inl rfl)) (pgs_nil)))) (fun _ _ _ _ _ => pts_one (pt_cmpR op_notN (pv 3) pe_non (nomark _))) (fun _ _ _ _ _ => (pe_fldK (K := K) rfl (pv 2) rfl))) pa_nil)))
    , ?_⟩
  refine ⟨_, rfl, ac, CW, dx, _, _, rfl, gw, T.c_World.cl, T.n_World_passes, lk_World_passes, _, rfl, t3, tt, x3, xt, rfl, .inr ⟨p3, htt, fun D hD => lc_it (walk_zipT (K := K) (a := t3) (b := tt) (xs := x3) (ys := xt) (by omega)) (fun i H' => Same H H' ∧ H' D = some (.lst ((feeL W c i).map V.int))) ⟨same_new hD _, upd_same⟩ (fun i H' _ hI => ⟨Same.tup hI.1 p3, Same.tup hI.1 htt⟩) (fun i x H1 H2 hi hI hy => ?_) (fun H1 hI => ?_)⟩⟩
  · obtain ⟨hs, hd⟩ := hI
    obtain ⟨tp, x1, y1, rfl, htp, rfl, hx, hy⟩ := hy
    obtain ⟨z, hz, pb, pd, ts, rfl, c1, c2⟩ := paired_at q3 hx
    obtain ⟨e, he, hde⟩ := dpAll_get hxt hy
    have sT := same_new htp (.tup [.ref pb, y1])
    have sA := hs.trans sT
    have hde := dp_same sA hde
    have fa := feeAt_some hz he
    have fl := feeL_len W c i
    refine ⟨tp, _, rfl, SqT.of upd_same, rfl, _, _, rfl, _, _, rfl, rfl, rfl, _, rfl, rfl, _, rfl, ?_⟩
    rw [non_entT hde]
    refine ite2 (fun k1 => ?_) (fun k1 => ?_)
    · refine ⟨_, rfl, pb, CP, pd, _, _, rfl, sA _ _ c1, T.c_Pass.cl, T.n_Pass_fee, lk_Pass_fee, ?_⟩
      rw [feeL_succ, fa, if_pos k1]
      exact lc_snoc (by omega) hD sA (sT _ _ hd)
    · refine ⟨sA, ?_⟩
      rw [feeL_succ, fa, if_neg k1, List.append_nil]
      exact sT _ _ hd
  · obtain ⟨hs, hd⟩ := hI
    rw [l3] at hd
    exact ⟨D, feeL W c W.pass.length, rfl, SqL.of hd, q _ hs⟩
def spPlan (K : PySem.W.Frag) (CS CT CR CP CW : Addr) (g : WorldD → CaseD → Int) : Sp := fun vs H Q _ => ∃ (ac : Addr) (v : V) (W : WorldD) (c : CaseD), vs = [.ref ac, v] ∧ WorldOk W ∧ WorldAt K CS CT CR CP CW H ac W ∧ Dp K H v (casePy c) ∧ c.made.length = W.recs.length ∧ c.taken.length = W.pass.length ∧ ∀ H', Same H H' → Q (.int (g W c)) H'
theorem d_weight_of (T : TxtW K mg CL CS CT CR CP CW aS aR fS fT fR fP) (D_recording_weight : DefOk P w K mg base CX0 2 "recording_weight" ["world", "r"] (spRecW K CS CT CR CP CW)) (D_fees_of : DefOk P w K mg base CX0 1 "fees_of" ["world", "taken"] (spFees K CS CT CR CP CW))
    (A : At K mg "weight_of" s_weight_of ["world", "plan"]) : DefOk P w K mg base CX0 3 "weight_of" ["world", "plan"] (spPlan K CS CT CR CP CW weightW) := by
  have B := T.L.B
  refine A.ok sc_weight_of (fun vs H Q E h => ?_) (fun f cdv A outer s H vs Q E hr h => ?_)
  · obtain ⟨ac, v, W, c, rfl, _⟩ := h
    rfl
  obtain ⟨ac, v, W, c, rfl, wok, hW, hc, nM, nT, q⟩ := h
  obtain ⟨t, tm, tt, xm, xt, rfl, ht, hm, htt, hxm, hxt, lm, lt⟩ := case_two hc
  have nR := wok.nRecs
  refine ⟨_, pss_cons (ps_asg (pv 1) (pg_tup (by rfl) (pgs_cons (pg_name (i := 2) sc_weight_of.nd rfl (Or.inl rfl)) (pgs_cons (pg_name (i := 3) sc_weight_of.nd rfl (Or.inl rfl)) (pgs_nil)))))
  (pss_cons (ps_setLc (own := [("r", 5), ("entry", 6)]) (i := 4) rfl sc_weight_of.nd rfl rfl (sw_true rfl rfl rfl (by decide +kernel)) (pi_enumT (by rfl) B.enumerate (pa_cons (pv 2) pa_nil)) (blkOk_by (own := [("r", 5), ("entry", 6)]) (N := ["world", "plan", "made", "taken", "weights", "r", "entry"]) (sc := defScope s_weight_of) (by decide +kernel)) (fun _ _ _ _ _ => pg_tupK (K := K) (n := 2) rfl (by rfl) (pgs_cons (pg_name (i := 5) sc_weight_of.nd rfl (Or.inl rfl)) (pgs_cons (pg_name (i := 6) sc_weight_of.nd rfl (Or.inl rfl)) (pgs_nil)))) (fun _ _ _ _ _ => pts_one (pt_cmpR op_notN (pv 6) pe_non (nomark _))) (fun _ _ _ _ _ => (pe_f D_recording_weight (hr.mono (by omega)) pass0 (pa_cons (pv 0) (pa_cons (pv 5) pa_nil)))))
  (pss_one (ps_ret (pe_op op_sub (pe_callB (cr_sum rfl) (by rfl) B.sum (by decide +kernel) (pa_cons (pv 4) pa_nil)) (pe_f D_fees_of (hr.mono (by omega)) pass0 (pa_cons (pv 0) (pa_cons (pv 3) pa_nil)))))))
    , ?_⟩
  refine ⟨_, rfl, t, _, rfl, ht, rfl, _, _, rfl, _, _, rfl, rfl, ?_⟩
  refine ⟨_, rfl, tm, xm, rfl, hm, fun D hD => lc_it (walk_enumT (K := K) (a := tm) (k := 0) (xs := xm)) (fun i H' => Same H H' ∧ H' D = some (.lst ((recL W c (fun z => some (recW W z)) i).map V.int))) ⟨same_new hD _, upd_same⟩ (fun i H' _ hI => Same.tup hI.1 hm) (fun i x H1 H2 hi hI hy => ?_) (fun H1 hI => ?_)⟩
  · obtain ⟨hs, hd⟩ := hI
    obtain ⟨tp, v, rfl, htp, rfl, hv⟩ := hy
    obtain ⟨e, he, hde⟩ := dpAll_get hxm hv
    have hi' : i < W.recs.length := by omega
    obtain ⟨z, hz⟩ : ∃ z, W.recs[i]? = some z := ⟨_, List.getElem?_eq_getElem hi'⟩
    have sT := same_new htp (.tup [.int (0 + (i : Nat)), v])
    have sA := hs.trans sT
    have hde := dp_same sA hde
    have fa := recAt_some (g := fun z => some (recW W z)) hz he
    have fl := recL_len W c (fun z => some (recW W z)) i
    refine ⟨tp, _, rfl, SqT.of upd_same, rfl, _, _, rfl, _, _, rfl, rfl, rfl, _, rfl, rfl, _, rfl, ?_⟩
    rw [non_entM hde]
    refine ite2 (fun k1 => ?_) (fun k1 => ?_)
    · refine ⟨_, rfl, _, rfl, ac, W, i, z, by rw [Int.zero_add]; rfl, wok, hW.same sA, hz, fun H3 s3 => ?_⟩
      rw [recL_succ, fa, if_pos k1]
      exact lc_snoc (by omega) hD (sA.trans s3) ((sT.trans s3) _ _ hd)
    · refine ⟨sA, ?_⟩
      rw [recL_succ, fa, if_neg k1, List.append_nil]
      exact sT _ _ hd
  · obtain ⟨s1, hd⟩ := hI
    rw [lm, nM] at hd
    exact ⟨_, rfl, D, recL W c (fun z => some (recW W z)) W.recs.length, rfl, SqL.of hd, _, rfl, _, rfl, ac, tt, W, xt, c, rfl, wok, hW.same s1, Same.tup s1 htt, dpAll_same s1 hxt, nT, fun H2 s2 => ⟨_, _, rfl, rfl, q _ (s1.trans s2)⟩⟩
end
end DP
namespace DP
open PySem PySem.Spec PyProof.Rows L2
abbrev s_is_tuple_of : Stmt := topS 5
theorem sc_is_tuple_of : FnScope ["thing", "many"] ["thing", "many"] (defScope s_is_tuple_of) := ⟨rfl, rfl, rfl, by decide +kernel, rfl, by decide +kernel, by decide +kernel⟩
section
variable {P : Program} {w : World} {K : PySem.W.Frag} {mg : Str → Option Value} {base : Heap}
def spIsTup (K : PySem.W.Frag) : Sp := fun vs H Q _ => ∃ (t : Addr) (xs : List V) (m : Int), vs = [.ref t, .int m] ∧ SqT K H t xs ∧ Q (.bl (decide (V.int (xs.length : Int) = V.int m))) H
theorem d_is_tuple_of (B : Bt mg) (A : At K mg "is_tuple_of" s_is_tuple_of ["thing", "many"]) : DefOk P w K mg base CX0 1 "is_tuple_of" ["thing", "many"] (spIsTup K) := by
  refine A.ok sc_is_tuple_of (fun vs H Q E h => ?_) (fun f cdv A outer s H vs Q E hr h => ?_)
  · obtain ⟨t, xs, m, rfl, _⟩ := h
    rfl
  obtain ⟨t, xs, m, rfl, ht, q⟩ := h
  refine ⟨_, pss_one (ps_ret (pe_and (pe_callB (call_isi) (by rfl) B.isinstance (by decide +kernel) (pa_cons (pv 0) (pa_cons (pe_bltn (v := .ty "tuple") (u := .type "tuple") (by rfl) B.tuple (by decide +kernel) rfl) pa_nil))) (pe_one (pe_cmpR op_eq (pe_callB (call_len_seq) (by rfl) B.len (by decide +kernel) (pa_cons (pv 0) pa_nil)) (pv 1) (nomark _)))))
    , ?_⟩
  exact ⟨_, rfl, _, .ty "tuple", _, _, true, rfl, .ty "tuple", tyx_tup ht, kit_ty (by decide +kernel), true, rfl, iteT' rfl ⟨_, rfl, t, xs, rfl, .inr ht, _, rfl, rfl, q⟩⟩
end
end DP
namespace DP
open PySem PySem.Spec PyProof.Rows L2
abbrev s_is_integer : Stmt := topS 6
theorem sc_is_integer : FnScope ["thing"] ["thing"] (defScope s_is_integer) := ⟨rfl, rfl, rfl, by decide +kernel, rfl, by decide +kernel, by decide +kernel⟩
section
variable {P : Program} {w : World} {K : PySem.W.Frag} {mg : Str → Option Value} {base : Heap} {CL CS CT CR CP CW aS aR fS fT fR fP : Addr}
def spIsI : Sp := fun vs H Q _ => ∃ i : Int, vs = [.int i] ∧ Q (.bl true) H
theorem d_isint (B : Bt mg) (A : At K mg "is_integer" s_is_integer ["thing"]) : DefOk P w K mg base CX0 1 "is_integer" ["thing"] spIsI := by
  refine A.ok sc_is_integer (fun vs H Q E h => ?_) (fun f cdv A outer s H vs Q E hr h => ?_)
  · obtain ⟨i, rfl, _⟩ := h
    rfl
  obtain ⟨i, rfl, q⟩ := h
  refine ⟨_, pss_one (ps_ret (pe_and (pe_callB (call_isi) (by rfl) B.isinstance (by decide +kernel) (pa_cons (pv 0) (pa_cons (pe_bltn (v := .ty "int") (u := .type "int") (by rfl) B.int (by decide +kernel) rfl) pa_nil))) (pe_one (pe_not (pe_callB (call_isi) (by rfl) B.isinstance (by decide +kernel) (pa_cons (pv 0) (pa_cons (pe_bltn (v := .ty "bool") (u := .type "bool") (by rfl) B.bool (by decide +kernel) rfl) pa_nil)))))))
    , ?_⟩
  refine ⟨_, rfl, _, .ty "int", _, _, true, rfl, .ty "int", .base (.int i), kit_ty (by decide +kernel), true, rfl, iteT ?_⟩
  exact ⟨_, rfl, _, .ty "bool", _, _, false, rfl, .ty "bool", .base (.int i), kit_ty (by decide +kernel), false, rfl, q⟩
end
end DP
namespace DP
open PySem PySem.Spec PyProof.Rows L2
abbrev s_is_made_entry : Stmt := topS 50
theorem sc_is_made_entry : FnScope ["world", "entry", "start", "p"] ["world", "entry"] (defScope s_is_made_entry) := ⟨rfl, rfl, rfl, by decide +kernel, rfl, by decide +kernel, by decide +kernel⟩
abbrev s_is_taken_entry : Stmt := topS 51
theorem sc_is_taken_entry : FnScope ["entry"] ["entry"] (defScope s_is_taken_entry) := ⟨rfl, rfl, rfl, by decide +kernel, rfl, by decide +kernel, by decide +kernel⟩
abbrev s_check_case : Stmt := topS 49
theorem sc_check_case : FnScope ["world", "case", "made", "taken", "entry"] ["world", "case"] (defScope s_check_case) := ⟨rfl, rfl, rfl, by decide +kernel, rfl, by decide +kernel, by decide +kernel⟩
section
variable {P : Program} {w : World} {K : PySem.W.Frag} {mg : Str → Option Value} {base : Heap} {CL CS CT CR CP CW aS aR fS fT fR fP : Addr}
def spIsMade (K : PySem.W.Frag) (CS CT CR CP CW : Addr) : Sp := fun vs H Q _ => ∃ (ac : Addr) (W : WorldD) (v : V) (e : EntM), vs = [.ref ac, v] ∧ WorldAt K CS CT CR CP CW H ac W ∧ MOk W true e ∧ Dp K H v (entM e) ∧ Q (.bl true) H
theorem d_is_made_entry (T : TxtW K mg CL CS CT CR CP CW aS aR fS fT fR fP) (TP : TxtO mg) (D_is_tuple_of : DefOk P w K mg base CX0 1 "is_tuple_of" ["thing", "many"] (spIsTup K)) (A : At K mg "is_made_entry" s_is_made_entry ["world", "entry"]) :
    DefOk P w K mg base CX0 2 "is_made_entry" ["world", "entry"] (spIsMade K CS CT CR CP CW) := by
  have B := T.L.B
  have TW := T
  refine A.ok sc_is_made_entry (fun vs H Q E h => ?_) (fun f cdv A outer s H vs Q E hr h => ?_)
  · obtain ⟨ac, W, v, e, rfl, _⟩ := h
    rfl
  obtain ⟨ac, W, v, e, rfl, hW, hok, hd, q⟩ := h
  obtain ⟨dx, t0, t1, t2, t3, x0, x1, x2, x3, gw, _, _, _, _, _, _, p3, q3⟩ := hW.ex
  have l3 := paired_len q3
  have T := TP
  refine ⟨_, pss_cons (ps_if (PW.pt (pw_or (pt_cmpR op_isN (pv 1) pe_non (nomark _)) (pw_or1 (pt_cmpR (op_eqD hr.units) (pv 1) (pe_gs T.g_OPEN) (nomark _)))))
      (pss_one (ps_ret pe_bl))
      (pss_nil))
  (pss_cons (ps_if (pt_not (pt_val (pe_f D_is_tuple_of (hr.mono (by omega)) pass0 (pa_cons (pv 1) (pa_cons pe_int pa_nil)))))
      (pss_one (ps_ret pe_bl))
      (pss_nil))
  (pss_cons (ps_asg (pv 1) (pg_tup (by rfl) (pgs_cons (pg_name (i := 2) sc_is_made_entry.nd rfl (Or.inl rfl)) (pgs_cons (pg_name (i := 3) sc_is_made_entry.nd rfl (Or.inl rfl)) (pgs_nil)))))
  (pss_one (ps_ret (pe_and (pe_callB (call_isi) (by rfl) B.isinstance (by decide +kernel) (pa_cons (pv 2) (pa_cons (pe_bltn (v := .ty "int") (u := .type "int") (by rfl) B.int (by decide +kernel) rfl) pa_nil))) (pe_and (pe_callB (call_isi) (by rfl) B.isinstance (by decide +kernel) (pa_cons (pv 3) (pa_cons (pe_bltn (v := .ty "int") (u := .type "int") (by rfl) B.int (by decide +kernel) rfl) pa_nil))) (pe_one (pe_chain op_le op_lt pe_int (pv 3) (pe_callB (call_len_seq) (by rfl) B.len (by decide +kernel) (pa_cons (pe_fld (pv 0) rfl) pa_nil))))))))))
    , ?_⟩
  have T := TW
  cases e with
  | non =>
    cases hd
    exact ⟨_, rfl, rfl, _, rfl, iteT' (decide_eq_true rfl) (iteT' rfl q)⟩
  | opn =>
    cases hd
    exact ⟨_, rfl, rfl, _, rfl, iteF' (decide_eq_false fun z => nomatch z) ⟨_, rfl, .str "open", .str "open", .str _, .str _, by decide +kernel, by decide +kernel, _, rfl, iteT' (by decide +kernel) q⟩⟩
  | at_ a p =>
    obtain ⟨t, xs, rfl, ht, hx⟩ := dp_tup hd
    have ex := dp_ints (ns := [a, p]) hx
    subst ex
    obtain ⟨_, _, p0, p1⟩ := hok
    refine ⟨_, rfl, rfl, _, rfl, iteF' (decide_eq_false fun z => nomatch z) ⟨_, rfl, entM (.at_ a p), .str "open", hd, .str _, rfl, by decide +kernel, _, rfl, iteF' rfl ?_⟩⟩
    refine ⟨_, rfl, t, _, 2, rfl, ht, _, rfl, iteF' (by show (!decide (V.int 2 = V.int 2)) = false; rw [decide_eq_true rfl]; rfl) ?_⟩
    refine ⟨_, rfl, t, _, rfl, ht, rfl, _, _, rfl, _, _, rfl, rfl, ?_⟩
    refine ⟨_, rfl, _, .ty "int", _, _, true, rfl, .ty "int", .base (.int a), kit_ty (by decide +kernel), true, rfl, iteT' rfl ⟨_, rfl, _, .ty "int", _, _, true, rfl, .ty "int", .base (.int p), kit_ty (by decide +kernel), true, rfl, iteT' rfl ?_⟩⟩
    refine ⟨_, rfl, _, _, rfl, rfl, _, rfl, iteT' (decide_eq_true p0) ⟨_, rfl, ac, CW, dx, _, _, rfl, gw, T.c_World.cl, T.n_World_passes, lk_World_passes, t3, x3, rfl, .inr p3, _, _, rfl, rfl, ?_⟩⟩
    show Q (.bl (decide (p < (x3.length : Int)))) H
    rw [decide_eq_true (by omega : p < (x3.length : Int))]
    exact q
def spIsTaken (K : PySem.W.Frag) : Sp := fun vs H Q _ => ∃ (v : V) (e : EntT), vs = [v] ∧ Dp K H v (entT e) ∧ Q (.bl true) H
theorem d_is_taken_entry (B : Bt mg) (TP : TxtO mg) (A : At K mg "is_taken_entry" s_is_taken_entry ["entry"]) : DefOk P w K mg base CX0 1 "is_taken_entry" ["entry"] (spIsTaken K) := by
  have T := TP
  refine A.ok sc_is_taken_entry (fun vs H Q E h => ?_) (fun f cdv A outer s H vs Q E hr h => ?_)
  · obtain ⟨v, e, rfl, _⟩ := h
    rfl
  obtain ⟨v, e, rfl, hd, q⟩ := h
  refine ⟨_, pss_one (ps_ret (pe_or (pe_cmpR op_isN (pv 0) pe_non (nomark _)) (pe_or (pe_cmpR (op_eqD hr.units) (pv 0) (pe_gs T.g_OPEN) (nomark _)) (pe_one (pe_callB (call_isi) (by rfl) B.isinstance (by decide +kernel) (pa_cons (pv 0) (pa_cons (pe_bltn (v := .ty "int") (u := .type "int") (by rfl) B.int (by decide +kernel) rfl) pa_nil)))))))
    , ?_⟩
  cases e with
  | non =>
    cases hd
    exact ⟨_, rfl, rfl, _, rfl, iteT' (decide_eq_true rfl) q⟩
  | opn =>
    cases hd
    exact ⟨_, rfl, rfl, _, rfl, iteF' (decide_eq_false fun z => nomatch z) ⟨_, rfl, .str "open", .str "open", .str _, .str _, by decide +kernel, by decide +kernel, _, rfl, iteT' (by decide +kernel) q⟩⟩
  | ant n =>
    cases hd
    exact ⟨_, rfl, rfl, _, rfl, iteF' (decide_eq_false fun z => nomatch z) ⟨_, rfl, .int n, .str "open", .int _, .str _, rfl, by decide +kernel, _, rfl, iteF' rfl ⟨_, rfl, _, .ty "int", _, _, true, rfl, .ty "int", .base (.int n), kit_ty (by decide +kernel), q⟩⟩⟩
def spCheckCase (K : PySem.W.Frag) (CS CT CR CP CW : Addr) : Sp := fun vs H Q _ => ∃ (ac : Addr) (W : WorldD) (v : V) (o : Bool) (c : CaseD), vs = [.ref ac, v] ∧ WorldOk W ∧ WorldAt K CS CT CR CP CW H ac W ∧ CaseG W o c ∧ Dp K H v (casePy c) ∧ ∀ H', Same H H' → Q .non H'
theorem mok_true {W : WorldD} {o : Bool} {e : EntM} (h : MOk W o e) : MOk W true e := by
  cases e with
  | non => trivial
  | opn => rfl
  | at_ s p => exact h
set_option maxHeartbeats 4000000 in
theorem d_check_case (T : TxtW K mg CL CS CT CR CP CW aS aR fS fT fR fP) (D_is_tuple_of : DefOk P w K mg base CX0 1 "is_tuple_of" ["thing", "many"] (spIsTup K)) (D_is_made_entry : DefOk P w K mg base CX0 2 "is_made_entry" ["world", "entry"] (spIsMade K CS CT CR CP CW))
    (D_is_taken_entry : DefOk P w K mg base CX0 1 "is_taken_entry" ["entry"] (spIsTaken K)) (A : At K mg "check_case" s_check_case ["world", "case"]) : DefOk P w K mg base CX0 3 "check_case" ["world", "case"] (spCheckCase K CS CT CR CP CW) := by
  have B := T.L.B
  refine A.ok sc_check_case (fun vs H Q E h => ?_) (fun f cdv A outer s H vs Q E hr h => ?_)
  · obtain ⟨ac, W, v, o, c, rfl, _⟩ := h
    rfl
  obtain ⟨ac, W, v, o, c, rfl, wok, hW, cg, hd, q⟩ := h
  obtain ⟨dx, t0, t1, t2, t3, x0, x1, x2, x3, gw, _, _, _, _, p2, q2, p3, q3⟩ := hW.ex
  have l2 := paired_len q2
  have l3 := paired_len q3
  obtain ⟨t, xs, rfl, ht, hx⟩ := dp_tup hd
  cases hx with
  | cons a0 hx =>
  cases hx with
  | cons a1 hx =>
  cases hx
  obtain ⟨tm, xm, rfl, hm, hxm⟩ := dp_tup a0
  obtain ⟨tt, xt, rfl, htt, hxt⟩ := dp_tup a1
  have lm := dpAll_len hxm
  have lt := dpAll_len hxt
  rw [List.length_map] at lm lt
  have nM := cg.nM
  have nT := cg.nT
  have nR := wok.nRecs
  have nP := wok.nPass
  refine ⟨_, pss_cons (ps_if (pt_not (pt_val (pe_f D_is_tuple_of (hr.mono (by omega)) pass0 (pa_cons (pv 1) (pa_cons pe_int pa_nil)))))
      (pss_one (ps_never))
      (pss_nil))
  (pss_cons (ps_asg (pv 1) (pg_tup (by rfl) (pgs_cons (pg_name (i := 2) sc_check_case.nd rfl (Or.inl rfl)) (pgs_cons (pg_name (i := 3) sc_check_case.nd rfl (Or.inl rfl)) (pgs_nil)))))
  (pss_cons (ps_if (pt_not (pt_val (pe_f D_is_tuple_of (hr.mono (by omega)) pass0 (pa_cons (pv 2) (pa_cons (pe_callB (call_len_seq) (by rfl) B.len (by decide +kernel) (pa_cons (pe_fld (pv 0) rfl) pa_nil)) pa_nil)))))
      (pss_one (ps_never))
      (pss_nil))
  (pss_cons (ps_if (pt_not (pt_val (pe_f D_is_tuple_of (hr.mono (by omega)) pass0 (pa_cons (pv 3) (pa_cons (pe_callB (call_len_seq) (by rfl) B.len (by decide +kernel) (pa_cons (pe_fld (pv 0) rfl) pa_nil)) pa_nil)))))
      (pss_one (ps_never))
      (pss_nil))
  (pss_cons (ps_if (pt_not (pt_val (pe_callB (cr_all rfl) (by rfl) B.all (by decide +kernel) (pa_cons (pe_lc (own := [("entry", 4)])  rfl sc_check_case.nd (pi_tup (pv 2)) (blkOk_by (own := [("entry", 4)]) (N := ["world", "case", "made", "taken", "entry"]) (sc := defScope s_check_case) (by decide +kernel)) (fun _ _ _ _ _ => pg_name (i := 4) sc_check_case.nd rfl (Or.inl rfl)) (fun _ _ _ _ _ => pts_nil) (fun _ _ _ _ _ => (pe_f D_is_made_entry (hr.mono (by omega)) pass0 (pa_cons (pv 0) (pa_cons (pv 4) pa_nil))))) pa_nil))))
      (pss_one (ps_never))
      (pss_nil))
  (pss_one (ps_if (pt_not (pt_val (pe_callB (cr_all rfl) (by rfl) B.all (by decide +kernel) (pa_cons (pe_lc (own := [("entry", 4)])  rfl sc_check_case.nd (pi_tup (pv 3)) (blkOk_by (own := [("entry", 4)]) (N := ["world", "case", "made", "taken", "entry"]) (sc := defScope s_check_case) (by decide +kernel)) (fun _ _ _ _ _ => pg_name (i := 4) sc_check_case.nd rfl (Or.inl rfl)) (fun _ _ _ _ _ => pts_nil) (fun _ _ _ _ _ => (pe_f D_is_taken_entry (hr.mono (by omega)) pass0 (pa_cons (pv 4) pa_nil)))) pa_nil))))
      (pss_one (ps_never))
      (pss_nil)))))))
    , ?_⟩
  refine ⟨_, rfl, t, _, 2, rfl, ht, _, rfl, iteF' (by show (!decide (V.int 2 = V.int 2)) = false; rw [decide_eq_true rfl]; rfl) ?_⟩
  refine ⟨_, rfl, t, _, rfl, ht, rfl, _, _, rfl, _, _, rfl, rfl, ?_⟩
  refine ⟨_, rfl, _, rfl, ac, CW, dx, _, _, rfl, gw, T.c_World.cl, T.n_World_recordings, lk_World_recordings, t2, x2, rfl, .inr p2, tm, xm, _, rfl, hm, _, rfl, iteF' (by rw [decide_eq_true (by rw [lm, l2, nM])]; rfl) ?_⟩
  refine ⟨_, rfl, _, rfl, ac, CW, dx, _, _, rfl, gw, T.c_World.cl, T.n_World_passes, lk_World_passes, t3, x3, rfl, .inr p3, tt, xt, _, rfl, htt, _, rfl, iteF' (by rw [decide_eq_true (by rw [lt, l3, nT])]; rfl) ?_⟩
  have allT : ∀ n : Nat, (!(List.replicate n true).all id) = false := fun n => by simp
  refine ⟨_, rfl, tm, rfl, ⟨_, hm⟩, fun D hD => lc_tup (K := K) (a := tm) (xs := xm) (fun i H' => Same H H' ∧ H' D = some (.lst ((List.replicate i true).map V.bl))) ⟨same_new hD _, upd_same⟩ (fun i H' _ h => Same.tup h.1 hm) (fun i x H1 hx hI => ?_) (fun H1 hI => ?_)⟩
  · obtain ⟨hs, hDD⟩ := hI
    obtain ⟨e, he, hde⟩ := dpAll_get hxm hx
    have hi : i < xm.length := (List.getElem?_eq_some_iff.mp hx).1
    refine ⟨rfl, _, rfl, _, rfl, ac, W, x, e, rfl, hW.same hs, mok_true (cg.mOk e (List.mem_of_getElem? he)), dp_same hs hde, _, hDD, ?_, same_at hD hs _, ?_⟩
    · rw [List.length_map, List.length_replicate]
      exact small1000 (by omega)
    · rw [upd_same, List.replicate_succ', List.map_append]
      rfl
  obtain ⟨s1, hDD⟩ := hI
  refine ⟨D, _, rfl, SqL.of hDD, _, rfl, iteF' (allT _) ?_⟩
  refine ⟨_, rfl, tt, rfl, ⟨_, Same.tup s1 htt⟩, fun D2 hD2 => lc_tup (K := K) (a := tt) (xs := xt) (fun i H' => Same H1 H' ∧ H' D2 = some (.lst ((List.replicate i true).map V.bl))) ⟨same_new hD2 _, upd_same⟩ (fun i H' _ h => Same.tup (s1.trans h.1) htt) (fun i x H2 hx hI => ?_) (fun H2 hI => ?_)⟩
  · obtain ⟨hs, hDD⟩ := hI
    obtain ⟨e, he, hde⟩ := dpAll_get hxt hx
    have hi : i < xt.length := (List.getElem?_eq_some_iff.mp hx).1
    refine ⟨rfl, _, rfl, x, e, rfl, dp_same (s1.trans hs) hde, _, hDD, ?_, same_at hD2 hs _, ?_⟩
    · rw [List.length_map, List.length_replicate]
      exact small1000 (by omega)
    · rw [upd_same, List.replicate_succ', List.map_append]
      rfl
  obtain ⟨s2, hDD2⟩ := hI
  exact ⟨D2, _, rfl, SqL.of hDD2, _, rfl, iteF' (allT _) (q _ (s1.trans s2))⟩
end
end DP
namespace DP
open PySem PySem.Spec PyProof.Rows L2
abbrev s_check_plan : Stmt := topS 48
theorem sc_check_plan : FnScope ["world", "plan", "made", "taken"] ["world", "plan"] (defScope s_check_plan) := ⟨rfl, rfl, rfl, by decide +kernel, rfl, by decide +kernel, by decide +kernel⟩
section
variable {P : Program} {w : World} {K : PySem.W.Frag} {mg : Str → Option Value} {base : Heap} {CL CS CT CR CP CW aS aR fS fT fR fP : Addr}
def spCheckPlan (K : PySem.W.Frag) (CS CT CR CP CW : Addr) : Sp := fun vs H Q _ => ∃ (ac : Addr) (W : WorldD) (v : V) (c : CaseD), vs = [.ref ac, v] ∧ WorldOk W ∧ WorldAt K CS CT CR CP CW H ac W ∧ CaseG W false c ∧ Dp K H v (casePy c) ∧ ∀ H', Same H H' → Q .non H'
theorem d_check_plan (T : TxtW K mg CL CS CT CR CP CW aS aR fS fT fR fP) (TP : TxtO mg) (D_check_case : DefOk P w K mg base CX0 3 "check_case" ["world", "case"] (spCheckCase K CS CT CR CP CW)) (A : At K mg "check_plan" s_check_plan ["world", "plan"]) :
    DefOk P w K mg base CX0 4 "check_plan" ["world", "plan"] (spCheckPlan K CS CT CR CP CW) := by
  have B := T.L.B
  have T := TP
  refine A.ok sc_check_plan (fun vs H Q E h => ?_) (fun f cdv A outer s H vs Q E hr h => ?_)
  · obtain ⟨ac, W, v, c, rfl, _⟩ := h
    rfl
  obtain ⟨ac, W, v, c, rfl, wok, hW, cg, hd, q⟩ := h
  refine ⟨_, pss_cons (ps_expr (pe_f D_check_case (hr.mono (by omega)) pass0 (pa_cons (pv 0) (pa_cons (pv 1) pa_nil))))
  (pss_cons (ps_asg (pv 1) (pg_tup (by rfl) (pgs_cons (pg_name (i := 2) sc_check_plan.nd rfl (Or.inl rfl)) (pgs_cons (pg_name (i := 3) sc_check_plan.nd rfl (Or.inl rfl)) (pgs_nil)))))
  (pss_one (ps_if (PW.pt (pw_or (pt_cmpR (op_inDT (hu65 hr)) (pe_gs T.g_OPEN) (pv 2) (by rfl)) (pw_or1 (pt_cmpR (op_inDT (hu65 hr)) (pe_gs T.g_OPEN) (pv 3) (by rfl)))))
      (pss_one (ps_never))
      (pss_nil))))
    , ?_⟩
  refine ⟨_, rfl, _, rfl, ac, W, v, false, c, rfl, wok, hW, cg, hd, fun H1 s1 => ?_⟩
  have hd1 := dp_same s1 hd
  obtain ⟨t, xs, rfl, ht, hx⟩ := dp_tup hd1
  cases hx with
  | cons a0 hx =>
  cases hx with
  | cons a1 hx =>
  cases hx
  refine ⟨_, rfl, t, _, rfl, ht, rfl, _, _, rfl, _, _, rfl, rfl, ?_⟩
  refine ⟨_, rfl, .str "open", _, .str _, a0, by decide +kernel, shp_made _, _, rfl, iteF' (any_open cg.mOk) ⟨_, rfl, .str "open", _, .str _, a1, by decide +kernel, shp_taken _, _, rfl, iteF' (any_openT cg.tOk) (q _ s1)⟩⟩
end
end DP
namespace DP
open PySem PySem.Spec PyProof.Rows L2
theorem WorldAt.bare {K : PySem.W.Frag} {CS CT CR CP CW C : Addr} {H H' : Hp} {a x dx0 : Addr} {W : WorldD} (h : WorldAt K CS CT CR CP CW H a W) (hx : H x = some (.ins C dx0 [])) (z : SameX x H H') : WorldAt K CS CT CR CP CW H' a W := by
  obtain ⟨dx, t0, t1, t2, t3, x0, x1, x2, x3, g, a0, b0, a1, b1, a2, b2, a3, b3⟩ := h.ex
  refine ⟨dx, t0, t1, t2, t3, x0, x1, x2, x3, z _ _ (ne_bare hx g (by show 6 ≠ 0; decide)) g, z.sqT hx a0, Paired.mapP b0 fun _ _ q => ?_, z.sqT hx a1, Paired.mapP b1 fun _ _ q => ?_, z.sqT hx a2, Paired.mapP b2 fun _ _ q => ?_, z.sqT hx a3, Paired.mapP b3 fun _ _ q => ?_⟩
  · obtain ⟨b, dx, t, ls, h1, h2, h3, h4⟩ := q
    exact ⟨b, dx, t, ls, h1, z _ _ (ne_bare hx h2 (by show 8 ≠ 0; decide)) h2, z.sqT hx h3, z.spans hx h4⟩
  · obtain ⟨b, dx, h1, h2⟩ := q
    exact ⟨b, dx, h1, z _ _ (ne_bare hx h2 (by show 3 ≠ 0; decide)) h2⟩
  · obtain ⟨b, dx, h1, h2⟩ := q
    exact ⟨b, dx, h1, z _ _ (ne_bare hx h2 (by show 10 ≠ 0; decide)) h2⟩
  · obtain ⟨b, dx, t, h1, h2, h3⟩ := q
    exact ⟨b, dx, t, h1, z _ _ (ne_bare hx h2 (by show 7 ≠ 0; decide)) h2, z.sqT hx h3⟩
theorem noL_case (c : CaseD) : noL (casePy c) := by
  have h1 := noLs_map noL_entM c.made
  have h2 := noLs_map noL_entT c.taken
  unfold casePy
  simp [noL, noLs, h1, h2]
theorem dp_bare {K : PySem.W.Frag} {C : Addr} {H H' : Hp} {x dx0 : Addr} {v : V} {d : PyData} (n : noL d) (h : Dp K H v d) (hx : H x = some (.ins C dx0 [])) (z : SameX x H H') : Dp K H' v d := dpT_map (fun _ _ q => z.sqT hx q) n h
end DP
namespace DP
open PySem PySem.Spec PyProof.Rows L2
/-- what a sum of tuples gives, the same object or a new one -/
theorem catA_any {K : PySem.W.Frag} {H : Hp} {a b : Addr} {xs ys : List V} {Q : VK} (ha : SqT K H a xs) (hb : SqT K H b ys) (hl : xs.length + ys.length ≤ sizeLine) (k : ∀ r H', Same H H' → SqT K H' r (xs ++ ys) → Q (.ref r) H') : rCatA K (.ref a) (.ref b) H Q :=
  ⟨a, b, xs, ys, rfl, rfl, ha, hb, hl, fun e => k b H (Same.refl _) (by rw [e]; exact hb), fun _ e => k a H (Same.refl _) (by rw [e, List.append_nil]; exact ha), fun _ _ p hp => k p _ (same_new hp _) (SqT.of upd_same)⟩
/-- what a slice of a tuple gives, the same object or a new one -/
theorem slA_any {K : PySem.W.Frag} {H : Hp} {a : Addr} {xs : List V} {lo hi : Option Int} {Q : VK} (ha : SqT K H a xs) (k : ∀ r H', Same H H' → SqT K H' r (cutV xs lo hi) → Q (.ref r) H') : rSlA K (.ref a) lo hi H Q := by
  refine ⟨a, xs, rfl, ha, fun h => k a H (Same.refl _) ?_, fun _ p hp => k p _ (same_new hp _) (SqT.of upd_same)⟩
  unfold cutV
  rw [h.1, h.2, List.drop_zero, Nat.sub_zero, List.take_length]
  exact ha
theorem cut_to {xs : List V} {i : Nat} (h : i ≤ xs.length) : cutV xs none (some (i : Int)) = xs.take i := by
  unfold cutV
  rw [HT.sIx_none, HT.sIx_nat, List.drop_zero, Nat.sub_zero, Nat.min_eq_left h]
theorem cut_from {xs : List V} {i : Nat} (h : i ≤ xs.length) : cutV xs (some (i : Int)) none = xs.drop i := by
  unfold cutV
  rw [HT.sIx_none, HT.sIx_nat, Nat.min_eq_left h]
  exact List.take_of_length_le (by rw [List.length_drop]; exact Nat.le_refl _)
theorem set_cut {xs : List V} {i : Nat} {x : V} (h : i < xs.length) : xs.take i ++ [x] ++ xs.drop (i + 1) = xs.set i x := by
  rw [List.set_eq_take_append_cons_drop, if_pos h, List.append_assoc]
  rfl
end DP
namespace DP
open PySem PySem.Spec PyProof.Rows L2
abbrev s_Goal___init__ : Stmt := inClass (topS 63) 0
theorem sc_Goal___init__ : FnScope ["self", "world", "plan", "lost", "many", "p"] ["self", "world", "plan", "lost"] (defScope s_Goal___init__) := ⟨rfl, rfl, rfl, by decide +kernel, rfl, by decide +kernel, by decide +kernel⟩
abbrev s_changes_of : Stmt := topS 65
theorem sc_changes_of : FnScope ["old", "entry"] ["old", "entry"] (defScope s_changes_of) := ⟨rfl, rfl, rfl, by decide +kernel, rfl, by decide +kernel, by decide +kernel⟩
abbrev s_changes : Stmt := topS 64
theorem sc_changes : FnScope ["goal", "plan", "old", "entry"] ["goal", "plan"] (defScope s_changes) := ⟨rfl, rfl, rfl, by decide +kernel, rfl, by decide +kernel, by decide +kernel⟩
abbrev s_goal_weight : Stmt := topS 66
theorem sc_goal_weight : FnScope ["world", "goal", "plan"] ["world", "goal", "plan"] (defScope s_goal_weight) := ⟨rfl, rfl, rfl, by decide +kernel, rfl, by decide +kernel, by decide +kernel⟩
abbrev s_entries_of : Stmt := topS 61
theorem sc_entries_of : FnScope ["case", "made", "taken"] ["case"] (defScope s_entries_of) := ⟨rfl, rfl, rfl, by decide +kernel, rfl, by decide +kernel, by decide +kernel⟩
structure TxtG (K : PySem.W.Frag) (mg : Str → Option Value) (CO : Addr) : Prop where
  c_Goal : ClsAt K mg "Goal" CO
  n_plan : NoAttr K CO "plan"
  n_lost : NoAttr K CO "lost"
  n_factor : NoAttr K CO "factor"
def goalF (vp : V) (tl : Addr) (n : Int) : List (Str × V) := [("plan", vp), ("lost", .ref tl), ("factor", .int n)]
theorem lk_Go_plan {vp : V} {tl : Addr} {n : Int} : List.lookup ("plan" : Str) (goalF vp tl n) = some vp := by unfold goalF; repeat (first | exact lk_hit | rw [lk_miss (by decide +kernel)])
theorem lk_Go_factor {vp : V} {tl : Addr} {n : Int} : List.lookup ("factor" : Str) (goalF vp tl n) = some (.int n : V) := by unfold goalF; repeat (first | exact lk_hit | rw [lk_miss (by decide +kernel)])
def factW (W : WorldD) : Int := 1 + (W.recs.length : Int) + (W.pass.length : Int)
/-- a goal: its plan, the lost passes in order, its factor -/
structure GoalAt (K : PySem.W.Frag) (CO : Addr) (H : Hp) (x : Addr) (W : WorldD) (c : CaseD) (ms : List Int) : Prop where
  ex : ∃ dx vp tl, H x = some (.ins CO dx (goalF vp tl (factW W))) ∧ Dp K H vp (casePy c) ∧ SqT K H tl (ms.map V.int)
theorem GoalAt.same {K : PySem.W.Frag} {CO : Addr} {H H' : Hp} {x : Addr} {W : WorldD} {c : CaseD} {ms : List Int} (h : GoalAt K CO H x W c ms) (s : Same H H') : GoalAt K CO H' x W c ms := by
  obtain ⟨dx, vp, tl, h1, h2, h3⟩ := h.ex
  exact ⟨dx, vp, tl, s _ _ h1, dp_same s h2, Same.tup s h3⟩
section
variable {P : Program} {w : World} {K : PySem.W.Frag} {mg : Str → Option Value} {base : Heap} {CL CS CT CR CP CW aS aR fS fT fR fP CB CO : Addr}
def lostOk (n : Int) (p : Int) : Bool := decide (0 ≤ p) && decide (p < n)
def spGoalI (K : PySem.W.Frag) (CS CT CR CP CW CO : Addr) : Sp := fun vs H Q _ => ∃ (x dx0 ac al : Addr) (W : WorldD) (c : CaseD) (v : V) (ls : List Int), vs = [.ref x, .ref ac, v, .ref al] ∧ H x = some (.ins CO dx0 []) ∧ WorldOk W ∧ WorldAt K CS CT CR CP CW H ac W ∧ CaseG W false c ∧ Dp K H v (casePy c) ∧ H al = some (.lst (ls.map V.int)) ∧ ls.length ≤ 60 ∧ ls.all (lostOk W.pass.length) = true ∧
  ∀ H' ms, SameX x H H' → ms.Pairwise (· < ·) → (∀ k, k ∈ ms ↔ k ∈ ls) → GoalAt K CO H' x W c ms → Q .non H'
set_option maxHeartbeats 8000000 in
theorem dI_Goal (T : TxtW K mg CL CS CT CR CP CW aS aR fS fT fR fP) (TG : TxtG K mg CO) (BS : mg "sorted" = none) (BE : mg "set" = none) (D_check_plan : DefOk P w K mg base CX0 4 "check_plan" ["world", "plan"] (spCheckPlan K CS CT CR CP CW)) (D_is_integer : DefOk P w K mg base CX0 1 "is_integer" ["thing"] spIsI)
    (A : MAt K CO "__init__" "Goal.__init__" s_Goal___init__ ["self", "world", "plan", "lost"]) : MDef P w K mg base CX0 5 CO "__init__" ["self", "world", "plan", "lost"] [] (spGoalI K CS CT CR CP CW CO) := by
  have B := T.L.B
  refine A.ok sc_Goal___init__ (fun vs H Q E h => ?_) (fun f cdv A outer s H vs Q E hr h => ?_)
  · obtain ⟨x, dx0, ac, al, W, c, v, ls, rfl, _⟩ := h
    rfl
  obtain ⟨x, dx0, ac, al, W, c, v, ls, rfl, hx, wok, hW, cg, hv, hal, ll, lok, q⟩ := h
  refine ⟨_, pss_cons (ps_expr (pe_f D_check_plan (hr.mono (by omega)) pass0 (pa_cons (pv 1) (pa_cons (pv 2) pa_nil))))
  (pss_cons (ps_set (i := 4) sc_Goal___init__.nd rfl (Or.inr rfl) (pe_callB (call_len_seq) (by rfl) B.len (by decide +kernel) (pa_cons (pe_fld (pv 1) rfl) pa_nil)))
  (pss_cons (ps_if (pt_not (pt_val (pe_callB (cr_all rfl) (by rfl) B.all (by decide +kernel) (pa_cons (pe_lc (own := [("p", 5)])  rfl sc_Goal___init__.nd (pi_list (pv 3)) (blkOk_by (own := [("p", 5)]) (N := ["self", "world", "plan", "lost", "many", "p"]) (sc := defScope s_Goal___init__) (by decide +kernel)) (fun _ _ _ _ _ => pg_name (i := 5) sc_Goal___init__.nd rfl (Or.inl rfl)) (fun _ _ _ _ _ => pts_nil) (fun _ _ _ _ _ => (pe_and (pe_f D_is_integer (hr.mono (by omega)) pass0 (pa_cons (pv 5) pa_nil)) (pe_one (pe_chain op_le op_lt pe_int (pv 5) (pv 4)))))) pa_nil))))
      (pss_one (ps_never))
      (pss_nil))
  (pss_cons (ps_fld (pv 0) (pv 2) rfl)
  (pss_cons (ps_fld (pv 0) (pe_callTy (call_tuple_of) (by rfl) B.tuple (by decide +kernel) (pa_cons (pe_callB (cr_sortedSet rfl) (by rfl) BS (by decide +kernel) (pa_cons (pe_callTy (cr_setI rfl) (by rfl) BE (by decide +kernel) (pa_cons (pv 3) pa_nil)) pa_nil)) pa_nil)) rfl)
  (pss_one (ps_fld (pv 0) (pe_op op_add (pe_op op_add pe_int (pe_callB (call_len_seq) (by rfl) B.len (by decide +kernel) (pa_cons (pe_fld (pv 1) rfl) pa_nil))) (pv 4)) rfl))))))
    , ?_⟩
  refine ⟨_, rfl, _, rfl, ac, W, v, c, rfl, wok, hW, cg, hv, fun H1 s1 => ?_⟩
  have hW1 := hW.same s1
  obtain ⟨dx, t0, t1, t2, t3, x0, x1, x2, x3, gw, _, _, _, _, p2, q2, p3, q3⟩ := hW1.ex
  have l2 := paired_len q2
  have l3 := paired_len q3
  refine ⟨_, rfl, ac, CW, dx, _, _, rfl, gw, T.c_World.cl, T.n_World_passes, lk_World_passes, t3, x3, rfl, .inr p3, ?_⟩
  refine ⟨_, rfl, al, rfl, ⟨_, SqL.of (s1 _ _ hal)⟩, fun D hD => lc_list (K := K) (a := al) (xs := ls.map V.int) (fun i H' => Same H1 H' ∧ H' D = some (.lst (((ls.take i).map (lostOk x3.length)).map V.bl))) ⟨same_new hD _, upd_same⟩ (fun i H' _ h => SqL.of ((s1.trans h.1) _ _ hal)) (fun i y H2 hy hI => ?_) (fun H2 hI => ?_)⟩
  · obtain ⟨hs, hd⟩ := hI
    rw [List.getElem?_map] at hy
    cases hn : ls[i]? with
    | none => rw [hn] at hy; cases hy
    | some m =>
      rw [hn] at hy
      have ey : V.int m = y := Option.some.inj hy
      subst ey
      have tk : (ls.take (i + 1)).map (lostOk x3.length) = (ls.take i).map (lostOk x3.length) ++ [lostOk x3.length m] := by
        rw [List.take_succ, hn, List.map_append]
        rfl
      have sm : (((ls.take i).map (lostOk x3.length)).map V.bl).length + 1 ≤ sizeLine := by
        rw [List.length_map, List.length_map, List.length_take]
        exact small1000 (by omega)
      refine ⟨rfl, _, rfl, m, rfl, true, rfl, iteT' rfl ⟨_, rfl, _, _, rfl, rfl, _, rfl, ite2 (fun c1 => ⟨_, rfl, _, _, rfl, rfl, _, hd, sm, same_at hD hs _, ?_⟩) (fun c1 => ⟨_, hd, sm, same_at hD hs _, ?_⟩)⟩⟩
      · rw [upd_same, tk, List.map_append]
        show some (HO.lst (_ ++ [V.bl (decide (m < (x3.length : Int)))])) = _
        rw [show lostOk x3.length m = decide (m < (x3.length : Int)) by unfold lostOk; rw [show decide (0 ≤ m) = true from c1, Bool.true_and]]
        rfl
      · rw [upd_same, tk, List.map_append]
        rw [show lostOk x3.length m = false by unfold lostOk; rw [show decide (0 ≤ m) = false from Bool.eq_false_iff.mpr c1]; rfl]
        rfl
  obtain ⟨s2, hDD⟩ := hI
  rw [List.length_map, List.take_length] at hDD
  have eall : (ls.map (lostOk x3.length)).all id = ls.all (lostOk W.pass.length) := by rw [List.all_map, l3]; rfl
  refine ⟨D, _, rfl, SqL.of hDD, _, rfl, iteF' (by show (!(ls.map (lostOk x3.length)).all id) = false; rw [eall, lok]; rfl) ?_⟩
  have s12 := s1.trans s2
  have hx2 := s12 _ _ hx
  refine ⟨_, rfl, _, rfl, x, CO, dx0, _, rfl, hx2, TG.c_Goal.cl, TG.n_plan, (by show 0 < 1000; decide), ?_⟩
  rw [put_nil]
  have X1 : SameX x H (upd H2 x (.ins CO dx0 [("plan", v)])) := (SameX.of s12).at_
  have hx3 : (upd H2 x (.ins CO dx0 [("plan", v)])) x = some (.ins CO dx0 [("plan", v)]) := upd_same
  have fr1 : ∀ b, (upd H2 x (.ins CO dx0 [("plan", v)])) b = none → H b = none := fun b hb => by
    by_cases c : b = x
    · rw [c, hx3] at hb; cases hb
    · rw [upd_ne c] at hb; exact s12.free hb
  generalize upd H2 x (.ins CO dx0 [("plan", v)]) = H3 at X1 hx3 fr1
  have nalx : al ≠ x := fun e => by rw [e, hx] at hal; cases hal
  have hal3 := X1 _ _ nalx hal
  refine ⟨_, rfl, al, ls, rfl, SqL.of hal3, by omega, fun a m hm ha => ?_⟩
  refine ⟨a, _, m, rfl, upd_same, by omega, fun ms pm pw mem lm hpm => ?_⟩
  have sS := (same_new ha (SetO w a (fun x => decide (x ∈ ls)) m)).trans (same_new hpm (.lst (ms.map V.int)))
  have hms : (upd (upd H3 a (SetO w a (fun x => decide (x ∈ ls)) m)) pm (.lst (ms.map V.int))) pm = some (.lst (ms.map V.int)) := upd_same
  refine ⟨pm, _, rfl, .inl ⟨SqL.of hms, fun tl htl => ?_⟩⟩
  have sT := sS.trans (same_new htl (.tup (ms.map V.int)))
  have hxT := sT _ _ hx3
  refine ⟨_, rfl, x, CO, dx0, _, rfl, hxT, TG.c_Goal.cl, TG.n_lost, (by show 1 < 1000; decide), ?_⟩
  rw [put_miss (by decide +kernel), put_nil]
  have X4 : SameX x H (upd (upd (upd (upd H3 a (SetO w a (fun x => decide (x ∈ ls)) m)) pm (.lst (ms.map V.int))) tl (.tup (ms.map V.int))) x (.ins CO dx0 [("plan", v), ("lost", .ref tl)])) := (X1.trans (SameX.of sT)).at_
  have htl4 : SqT K (upd (upd (upd (upd H3 a (SetO w a (fun x => decide (x ∈ ls)) m)) pm (.lst (ms.map V.int))) tl (.tup (ms.map V.int))) x (.ins CO dx0 [("plan", v), ("lost", .ref tl)])) tl (ms.map V.int) := .inl (.inl (by
    rw [upd_ne (fun e => by rw [e] at htl; rw [sS _ _ hx3] at htl; cases htl)]
    exact upd_same))
  have hx4 : (upd (upd (upd (upd H3 a (SetO w a (fun x => decide (x ∈ ls)) m)) pm (.lst (ms.map V.int))) tl (.tup (ms.map V.int))) x (.ins CO dx0 [("plan", v), ("lost", .ref tl)])) x = some (.ins CO dx0 [("plan", v), ("lost", .ref tl)]) := upd_same
  have hW4 := hW.bare hx X4
  obtain ⟨dx, u0, u1, u2, u3, y0, y1, y2, y3, gw', _, _, _, _, j2, k2, j3, k3⟩ := hW4.ex
  have m2 := paired_len k2
  refine ⟨_, rfl, ac, CW, dx, _, _, rfl, gw', T.c_World.cl, T.n_World_recordings, lk_World_recordings, u2, y2, rfl, .inr j2, _, _, rfl, rfl, _, rfl, _, _, rfl, rfl, _, rfl, x, CO, dx0, _, rfl, hx4, TG.c_Goal.cl, TG.n_factor, (by show 2 < 1000; decide), ?_⟩
  rw [put_miss (by decide +kernel), put_miss (by decide +kernel), put_nil]
  have ef : (1 : Int) + (y2.length : Int) + (x3.length : Int) = factW W := by unfold factW; rw [m2, l3]
  have X5 : SameX x H (upd (upd (upd (upd (upd H3 a (SetO w a (fun x => decide (x ∈ ls)) m)) pm (.lst (ms.map V.int))) tl (.tup (ms.map V.int))) x (.ins CO dx0 [("plan", v), ("lost", .ref tl)])) x (.ins CO dx0 [("plan", v), ("lost", .ref tl), ("factor", .int (1 + (y2.length : Int) + (x3.length : Int)))])) := X4.at_
  refine q _ ms X5 pw (fun k => (mem k).trans ⟨fun h => of_decide_eq_true h, fun h => decide_eq_true h⟩) ⟨dx0, v, tl, by rw [← ef]; exact upd_same, dp_bare (noL_case c) hv hx X5, ?_⟩
  have ntl : tl ≠ x := fun e => by rw [e] at htl; rw [sS _ _ hx3] at htl; cases htl
  rcases htl4 with (h | ⟨o, h⟩) | h
  · exact .inl (.inl ((upd_ne ntl).trans h))
  · exact .inl (.inr ⟨o, (upd_ne ntl).trans h⟩)
  · exact .inr h
def entsPy (c : CaseD) : List PyData := c.made.map entM ++ c.taken.map entT
theorem shp_ent {c : CaseD} : ∀ d ∈ entsPy c, SeqAt.shaped d = true := fun d hd => by
  rcases List.mem_append.mp hd with h | h
  · obtain ⟨e, _, rfl⟩ := List.mem_map.mp h
    cases e <;> first | rfl | decide +kernel
  · obtain ⟨e, _, rfl⟩ := List.mem_map.mp h
    cases e <;> first | rfl | decide +kernel
def spEnt (K : PySem.W.Frag) : Sp := fun vs H Q _ => ∃ (v : V) (c : CaseD), vs = [v] ∧ Dp K H v (casePy c) ∧ c.made.length + c.taken.length ≤ 100 ∧ ∀ r xs H', Same H H' → SqT K H' r xs → DpAll K H' xs (entsPy c) → Q (.ref r) H'
theorem dpAll_app2 {H : Hp} : ∀ {xs ys : List V} {ds es : List PyData}, DpAll K H xs ds → DpAll K H ys es → DpAll K H (xs ++ ys) (ds ++ es)
  | _, _, _, _, .nil, h => h
  | _, _, _, _, .cons a t, h => .cons a (dpAll_app2 t h)
theorem d_entries (A : At K mg "entries_of" s_entries_of ["case"]) : DefOk P w K mg base CX0 1 "entries_of" ["case"] (spEnt K) := by
  refine A.ok sc_entries_of (fun vs H Q E h => ?_) (fun f cdv A outer s H vs Q E hr h => ?_)
  · obtain ⟨v, c, rfl, _⟩ := h
    rfl
  obtain ⟨v, c, rfl, hd, l10, q⟩ := h
  obtain ⟨t, tm, tt, xm, xt, rfl, ht, hm, htt, hxm, hxt, lm, lt⟩ := case_two hd
  refine ⟨_, pss_cons (ps_asg (pv 0) (pg_tup (by rfl) (pgs_cons (pg_name (i := 1) sc_entries_of.nd rfl (Or.inl rfl)) (pgs_cons (pg_name (i := 2) sc_entries_of.nd rfl (Or.inl rfl)) (pgs_nil)))))
  (pss_one (ps_ret (pe_op op_catA (pv 1) (pv 2))))
    , ?_⟩
  refine ⟨_, rfl, t, _, rfl, ht, rfl, _, _, rfl, _, _, rfl, rfl, _, rfl, _, rfl, ?_⟩
  exact catA_any hm htt (Nat.le_trans (show xm.length + xt.length ≤ 100 by omega) (show 100 ≤ sizeLine by decide)) fun r H' s' hr' => q r _ H' s' hr' (dpAll_app2 (dpAll_same s' hxm) (dpAll_same s' hxt))
def diffP (old e : PyData) : Int := if PyData.eqv e old = true then 0 else 1
def spDiff (K : PySem.W.Frag) : Sp := fun vs H Q _ => ∃ (x y : V) (d e : PyData), vs = [x, y] ∧ Dp K H x d ∧ Dp K H y e ∧ SeqAt.shaped d = true ∧ SeqAt.shaped e = true ∧ Q (.int (diffP d e)) H
theorem d_changes_of (A : At K mg "changes_of" s_changes_of ["old", "entry"]) : DefOk P w K mg base CX0 1 "changes_of" ["old", "entry"] (spDiff K) := by
  refine A.ok sc_changes_of (fun vs H Q E h => ?_) (fun f cdv A outer s H vs Q E hr h => ?_)
  · obtain ⟨x, y, d, e, rfl, _⟩ := h
    rfl
  obtain ⟨x, y, d, e, rfl, hx, hy, sx, sy, q⟩ := h
  refine ⟨_, pss_one (ps_ret (pe_ifExp (pt_cmpR (op_eqD hr.units) (pv 1) (pv 0) (nomark _)) pe_int pe_int))
    , ?_⟩
  refine ⟨_, rfl, _, rfl, _, _, hy, hx, sy, sx, _, rfl, ?_⟩
  unfold diffP at q
  by_cases c : PyData.eqv e d = true
  · rw [if_pos c] at q
    exact iteT' c q
  · rw [if_neg c] at q
    exact iteF' (Bool.eq_false_iff.mpr c) q
theorem dpAll_nth {H : Hp} : ∀ {xs : List V} {ds : List PyData} {i : Nat} {x : V}, DpAll K H xs ds → xs[i]? = some x → ∃ d, ds[i]? = some d ∧ Dp K H x d
  | _, _, 0, _, .cons a _, h => by cases h; exact ⟨_, rfl, a⟩
  | _, _, i + 1, _, .cons _ t, h => dpAll_nth (i := i) t h
def chgW (c d : CaseD) : Int := (((entsPy c).zip (entsPy d)).map fun q => diffP q.1 q.2).sum
def spChg (K : PySem.W.Frag) (CO : Addr) : Sp := fun vs H Q _ => ∃ (x : Addr) (v : V) (W : WorldD) (c d : CaseD) (ms : List Int), vs = [.ref x, v] ∧ WorldOk W ∧ GoalAt K CO H x W c ms ∧ CaseG W false c ∧ CaseG W false d ∧ Dp K H v (casePy d) ∧ ∀ H', Same H H' → Q (.int (chgW c d)) H'
set_option maxHeartbeats 8000000 in
theorem d_changes (B : Bt mg) (TG : TxtG K mg CO) (D_entries_of : DefOk P w K mg base CX0 1 "entries_of" ["case"] (spEnt K)) (D_changes_of : DefOk P w K mg base CX0 1 "changes_of" ["old", "entry"] (spDiff K)) (A : At K mg "changes" s_changes ["goal", "plan"]) : DefOk P w K mg base CX0 2 "changes" ["goal", "plan"] (spChg K CO) := by
  have T := TG
  refine A.ok sc_changes (fun vs H Q E h => ?_) (fun f cdv A outer s H vs Q E hr h => ?_)
  · obtain ⟨x, v, W, c, d, ms, rfl, _⟩ := h
    rfl
  obtain ⟨x, v, W, c, d, ms, rfl, wok, hG, cgc, cgd, hv, q⟩ := h
  obtain ⟨dx, vp, tl, hx, hp, htl⟩ := hG.ex
  have nR := wok.nRecs
  have nP := wok.nPass
  have c1 := cgc.nM; have c2 := cgc.nT; have d1 := cgd.nM; have d2 := cgd.nT
  refine ⟨_, pss_one (ps_ret (pe_callB (cr_sum rfl) (by rfl) B.sum (by decide +kernel) (pa_cons (pe_lc (own := [("old", 2), ("entry", 3)])  rfl sc_changes.nd (RZ.pi_zipA (by rfl) B.zip (pa_cons (pe_f D_entries_of (hr.mono (by omega)) pass0 (pa_cons (pe_fld (pv 0) rfl) pa_nil)) (pa_cons (pe_f D_entries_of (hr.mono (by omega)) pass0 (pa_cons (pv 1) pa_nil)) pa_nil))) (blkOk_by (own := [("old", 2), ("entry", 3)]) (N := ["goal", "plan", "old", "entry"]) (sc := defScope s_changes) (by decide +kernel)) (fun _ _ _ _ _ => pg_tupK (K := K) (n := 2) rfl (by rfl) (pgs_cons (pg_name (i := 2) sc_changes.nd rfl (Or.inl rfl)) (pgs_cons (pg_name (i := 3) sc_changes.nd rfl (Or.inl rfl)) (pgs_nil)))) (fun _ _ _ _ _ => pts_nil) (fun _ _ _ _ _ => (pe_f D_changes_of (hr.mono (by omega)) pass0 (pa_cons (pv 2) (pa_cons (pv 3) pa_nil))))) pa_nil)))
    , ?_⟩
  refine ⟨_, rfl, x, CO, dx, _, _, rfl, hx, TG.c_Goal.cl, TG.n_plan, lk_Go_plan, vp, c, rfl, hp, by omega, fun r1 xs1 H1 s1 hr1 hx1 => ?_⟩
  refine ⟨_, rfl, v, d, rfl, dp_same s1 hv, by omega, fun r2 xs2 H2 s2 hr2 hx2 => ?_⟩
  have e1 := dpAll_len hx1
  have e2 := dpAll_len hx2
  have e3 : (entsPy c).length = c.made.length + c.taken.length := by unfold entsPy; simp
  have e4 : (entsPy d).length = d.made.length + d.taken.length := by unfold entsPy; simp
  have hr12 := Same.tup s2 hr1
  have hx12 := dpAll_same s2 hx1
  refine ⟨r1, r2, xs1, xs2, rfl, .inr ⟨hr12, hr2, fun D hD => lc_it (walk_zipT (K := K) (a := r1) (b := r2) (xs := xs1) (ys := xs2) (by omega)) (fun i H' => Same H2 H' ∧ H' D = some (.lst (((((entsPy c).zip (entsPy d)).take i).map fun q => diffP q.1 q.2).map V.int))) ⟨same_new hD _, upd_same⟩ (fun i H' _ hI => ⟨Same.tup hI.1 hr12, Same.tup hI.1 hr2⟩) (fun i y H3 H4 hi hI hy => ?_) (fun H3 hI => ?_)⟩⟩
  · obtain ⟨hs, hd⟩ := hI
    obtain ⟨tp, x3, y3, rfl, htp, rfl, g1, g2⟩ := hy
    obtain ⟨a, ha, da⟩ := dpAll_nth hx12 g1
    obtain ⟨b, hb, db⟩ := dpAll_nth hx2 g2
    have sT := same_new htp (.tup [x3, y3])
    have sA := hs.trans sT
    have hz : ((entsPy c).zip (entsPy d))[i]? = some (a, b) := by rw [List.getElem?_zip_eq_some]; exact ⟨ha, hb⟩
    refine ⟨tp, _, rfl, SqT.of upd_same, rfl, _, _, rfl, _, _, rfl, rfl, rfl, _, rfl, _, rfl, x3, y3, a, b, rfl, dp_same sA da, dp_same sA db, shp_ent _ (List.mem_of_getElem? ha), shp_ent _ (List.mem_of_getElem? hb), ?_⟩
    exact lc_step (f := fun q : PyData × PyData => diffP q.1 q.2) hz (by rw [List.length_zip]; omega) hD sA (sT _ _ hd)
  · obtain ⟨hs, hd⟩ := hI
    rw [show xs1.length = ((entsPy c).zip (entsPy d)).length by rw [List.length_zip]; omega, List.take_length] at hd
    exact ⟨D, _, rfl, SqL.of hd, q _ ((s1.trans s2).trans hs)⟩
def goalW (W : WorldD) (c d : CaseD) : Int := factW W * weightW W d - chgW c d
def spGoalW (K : PySem.W.Frag) (CS CT CR CP CW CO : Addr) : Sp := fun vs H Q _ => ∃ (ac x : Addr) (v : V) (W : WorldD) (c d : CaseD) (ms : List Int), vs = [.ref ac, .ref x, v] ∧ WorldOk W ∧ WorldAt K CS CT CR CP CW H ac W ∧ GoalAt K CO H x W c ms ∧ CaseG W false c ∧ CaseG W false d ∧ Dp K H v (casePy d) ∧ ∀ H', Same H H' → Q (.int (goalW W c d)) H'
theorem d_goal_weight (TG : TxtG K mg CO) (D_weight_of : DefOk P w K mg base CX0 3 "weight_of" ["world", "plan"] (spPlan K CS CT CR CP CW weightW)) (D_changes : DefOk P w K mg base CX0 2 "changes" ["goal", "plan"] (spChg K CO)) (A : At K mg "goal_weight" s_goal_weight ["world", "goal", "plan"]) : DefOk P w K mg base CX0 4 "goal_weight" ["world", "goal", "plan"] (spGoalW K CS CT CR CP CW CO) := by
  have T := TG
  refine A.ok sc_goal_weight (fun vs H Q E h => ?_) (fun f cdv A outer s H vs Q E hr h => ?_)
  · obtain ⟨ac, x, v, W, c, d, ms, rfl, _⟩ := h
    rfl
  obtain ⟨ac, x, v, W, c, d, ms, rfl, wok, hW, hG, cgc, cgd, hv, q⟩ := h
  obtain ⟨dx, vp, tl, hx, hp, htl⟩ := hG.ex
  have nR := wok.nRecs
  have nP := wok.nPass
  refine ⟨_, pss_one (ps_ret (pe_op op_sub (pe_op op_mul (pe_fld (pv 1) rfl) (pe_f D_weight_of (hr.mono (by omega)) pass0 (pa_cons (pv 0) (pa_cons (pv 2) pa_nil)))) (pe_f D_changes (hr.mono (by omega)) pass0 (pa_cons (pv 1) (pa_cons (pv 2) pa_nil)))))
    , ?_⟩
  refine ⟨_, rfl, x, CO, dx, _, _, rfl, hx, TG.c_Goal.cl, TG.n_factor, lk_Go_factor, _, rfl, _, rfl, ac, v, W, d, rfl, wok, hW, hv, cgd.nM, cgd.nT, fun H1 s1 => ?_⟩
  refine ⟨_, _, rfl, rfl, .inl ⟨by unfold factW; omega, by unfold factW; omega⟩, _, rfl, _, rfl, x, v, W, c, d, ms, rfl, wok, hG.same s1, cgc, cgd, dp_same s1 hv, fun H2 s2 => ?_⟩
  exact ⟨_, _, rfl, rfl, q _ (s1.trans s2)⟩
end
end DP
namespace DP
open PySem PySem.Spec PyProof.Rows L2
def iRngV (te : TE) : TI := fun σ H R => te σ H fun x H1 => ∃ p lo hi, x = .ref p ∧ H1 p = some (.rng lo hi) ∧ (-(2 ^ 62) ≤ lo ∧ lo < 2 ^ 62 ∧ -(2 ^ 62) ≤ hi ∧ hi < 2 ^ 62) ∧ R (Itr lo (hi - lo).toNat) H1
theorem pi_rngV {X : Cx} {tg e : Expr} {te : TE} (he : PE X e te) : PI X tg e (iRngV te) := by
  refine ⟨fun pins s σ H R I h => ?_⟩
  refine thn (he.run pins s σ H _ I h) fun v s1 ⟨x, H1, I1, r1, p, lo, hi, ex, hp, ⟨h1, h2, h3, h4⟩, q⟩ => ?_
  subst ex
  cases r1
  obtain ⟨t, u, w', g⟩ := (show ObjOk X.prog X.w H1 s1.heap p (.rng lo hi) from I1.hok p _ hp)
  refine wpAny_pyIter_range g (small_one h1 h2 h3 h4) ?_
  refine ⟨s1.heap.objs.size, [s1.heap.objs.size], _, _, H1, rfl, I1.kept (t' := s1.toks) fun b o e => Heap.get?_push_of_some _ e, turn_range _ lo (hi - lo).toNat, ?_, fun b hb => ?_, q⟩
  · have e2 : (((hi - lo).toNat : Nat) : Int) - ((0 : Nat) : Int) = Builtin.Range.rangeSize lo hi 1 := by rw [rangeSize_one]; split <;> omega
    show IsRangeIter _ _ (lo + ((0 : Nat) : Int) * 1) ((((hi - lo).toNat : Nat) : Int) - ((0 : Nat) : Int)) 1
    rw [e2, show lo + ((0 : Nat) : Int) * 1 = lo by omega]
    exact Heap.get?_push_size _ rfl
  · have e : b = s1.heap.objs.size := by simpa using hb
    rw [e]
    exact I1.fpOk (Nat.le_refl _) (I1.hok.fresh (Nat.le_refl _))
end DP
namespace DP
open PySem PySem.Spec PyProof.Rows L2
abbrev s_is_option : Stmt := topS 34
theorem sc_is_option : FnScope ["world", "number", "pair", "recording", "start", "p", "chance", "first", "end"] ["world", "number", "pair"] (defScope s_is_option) := ⟨rfl, rfl, rfl, by decide +kernel, rfl, by decide +kernel, by decide +kernel⟩
def isOpt (z : RecD) (s : Int) (c : PasD) : Bool := decide (z.earliest ≤ s) && (decide (s ≤ z.latest) && okP z s c)
section
variable {P : Program} {w : World} {K : PySem.W.Frag} {mg : Str → Option Value} {base : Heap} {CL CS CT CR CP CW aS aR fS fT fR fP : Addr}
def spIsOption (K : PySem.W.Frag) (CS CT CR CP CW : Addr) : Sp := fun vs H Q _ => ∃ (ac t : Addr) (W : WorldD) (i k : Nat) (z : RecD) (c : PasD) (s : Int), vs = [.ref ac, .int (i : Int), .ref t] ∧ WorldAt K CS CT CR CP CW H ac W ∧ W.recs[i]? = some z ∧ W.pass[k]? = some c ∧ SqT K H t [.int s, .int (k : Int)] ∧
  Q (.bl (isOpt z s c)) H
set_option maxHeartbeats 4000000 in
theorem d_is_option (T : TxtW K mg CL CS CT CR CP CW aS aR fS fT fR fP) (A : At K mg "is_option" s_is_option ["world", "number", "pair"]) : DefOk P w K mg base CX0 1 "is_option" ["world", "number", "pair"] (spIsOption K CS CT CR CP CW) := by
  have B := T.L.B
  refine A.ok sc_is_option (fun vs H Q E h => ?_) (fun f cdv A outer s H vs Q E hr h => ?_)
  · obtain ⟨ac, t, W, i, k, z, c, s, rfl, _⟩ := h
    rfl
  obtain ⟨ac, t, W, i, k, z, c, s0, rfl, hW, hz, hc, ht, q⟩ := h
  obtain ⟨dx, t0, t1, t2, t3, x0, x1, x2, x3, gw, _, _, _, _, p2, q2, p3, q3⟩ := hW.ex
  have l2 := paired_len q2
  have l3 := paired_len q3
  have hi : i < W.recs.length := (List.getElem?_eq_some_iff.mp hz).1
  have hk : k < W.pass.length := (List.getElem?_eq_some_iff.mp hc).1
  obtain ⟨x, hx⟩ : ∃ x, x2[i]? = some x := ⟨_, List.getElem?_eq_getElem (by omega)⟩
  obtain ⟨z', hz', ob, od, rfl, o1⟩ := paired_at q2 hx
  rw [hz] at hz'
  cases hz'
  obtain ⟨y, hy⟩ : ∃ x, x3[k]? = some x := ⟨_, List.getElem?_eq_getElem (by omega)⟩
  obtain ⟨c', hc', pb, pd, ts, rfl, c1, c2⟩ := paired_at q3 hy
  rw [hc] at hc'
  cases hc'
  refine ⟨_, pss_cons (ps_set (i := 3) sc_is_option.nd rfl (Or.inl rfl) (pe_ix ix_tup (pe_fld (pv 0) rfl) (pv 1) (fun _ _ => rfl)))
  (pss_cons (ps_asg (pv 2) (pg_tup (by rfl) (pgs_cons (pg_name (i := 4) sc_is_option.nd rfl (Or.inl rfl)) (pgs_cons (pg_name (i := 5) sc_is_option.nd rfl (Or.inl rfl)) (pgs_nil)))))
  (pss_cons (ps_set (i := 6) sc_is_option.nd rfl (Or.inl rfl) (pe_ix ix_tup (pe_fld (pv 0) rfl) (pv 5) (fun _ _ => rfl)))
  (pss_cons (ps_if (PW.pt (pw_or (pt_cmpR op_ne (pe_fld (pv 6) rfl) (pe_fld (pv 3) rfl) (nomark _)) (pw_or1 (pt_not (pt_chain op_le op_le (pe_fld (pv 3) rfl) (pv 4) (pe_fld (pv 3) rfl))))))
      (pss_one (ps_ret pe_bl))
      (pss_nil))
  (pss_cons (ps_asg (pe_fld (pv 6) rfl) (pg_tup (by rfl) (pgs_cons (pg_name (i := 7) sc_is_option.nd rfl (Or.inl rfl)) (pgs_cons (pg_name (i := 8) sc_is_option.nd rfl (Or.inl rfl)) (pgs_nil)))))
  (pss_one (ps_ret (pe_and (pe_cmpR op_le (pe_op op_add (pv 4) (pe_fld (pv 3) rfl)) (pv 7) (nomark _)) (pe_one (pe_cmpR op_le (pv 8) (pe_fld (pv 3) rfl) (nomark _))))))))))
    , ?_⟩
  refine ⟨_, rfl, ac, CW, dx, _, _, rfl, gw, T.c_World.cl, T.n_World_recordings, lk_World_recordings, _, rfl, t2, x2, (i : Int), _, rfl, rfl, p2, atI_nat hx, ?_⟩
  refine ⟨_, rfl, t, _, rfl, ht, rfl, _, _, rfl, _, _, rfl, rfl, ?_⟩
  refine ⟨_, rfl, ac, CW, dx, _, _, rfl, gw, T.c_World.cl, T.n_World_passes, lk_World_passes, _, rfl, t3, x3, (k : Int), _, rfl, rfl, p3, atI_nat hy, ?_⟩
  have no : isOpt z s0 c = false → Q (.bl false) H := fun e => by rw [e] at q; exact q
  refine ⟨_, rfl, pb, CP, pd, _, _, rfl, c1, T.c_Pass.cl, T.n_Pass_satellite, lk_Pass_satellite, _, rfl, ob, CR, od, _, _, rfl, o1, T.c_Recording.cl, T.n_Recording_satellite, lk_Recording_satellite, rfl, _, rfl, ite2 (fun e1 => iteT ?_) (fun e1 => ?_)⟩
  · refine no ?_
    have e2 : ¬ (c.sat : Int) = (z.sat : Int) := fun h => by rw [h, decide_eq_true rfl] at e1; cases e1
    unfold isOpt okP
    rw [decide_eq_false e2, Bool.false_and, Bool.and_false, Bool.and_false]
  have e2 : (c.sat : Int) = (z.sat : Int) := by
    by_cases h : (c.sat : Int) = (z.sat : Int)
    · exact h
    · exact absurd (by rw [decide_eq_false (fun y : V.int (c.sat : Int) = V.int (z.sat : Int) => h (V.int.inj y))]; rfl) e1
  have ed : decide ((c.sat : Int) = (z.sat : Int)) = true := decide_eq_true e2
  refine ⟨_, rfl, ob, CR, od, _, _, rfl, o1, T.c_Recording.cl, T.n_Recording_earliest, lk_Recording_earliest, _, rfl, _, _, rfl, rfl, _, rfl, ite2 (fun e3 => ?_) (fun e3 => ?_)⟩
  · refine ⟨_, rfl, ob, CR, od, _, _, rfl, o1, T.c_Recording.cl, T.n_Recording_latest, lk_Recording_latest, _, _, rfl, rfl, _, rfl, ?_⟩
    have e3' : decide (z.earliest ≤ s0) = true := e3
    by_cases e4 : s0 ≤ z.latest
    · refine iteF' (by rw [decide_eq_true e4]; rfl) ?_
      refine ⟨_, rfl, pb, CP, pd, _, _, rfl, c1, T.c_Pass.cl, T.n_Pass_span, lk_Pass_span, ts, _, rfl, c2, rfl, _, _, rfl, _, _, rfl, rfl, ?_⟩
      refine ⟨_, rfl, _, rfl, ob, CR, od, _, _, rfl, o1, T.c_Recording.cl, T.n_Recording_length, lk_Recording_length, _, _, rfl, rfl, _, rfl, _, _, rfl, rfl, _, rfl, ite2 (fun e5 => ?_) (fun e5 => no ?_)⟩
      · have e5' : decide (s0 + z.length ≤ c.first) = true := e5
        refine ⟨_, rfl, _, rfl, ob, CR, od, _, _, rfl, o1, T.c_Recording.cl, T.n_Recording_deadline, lk_Recording_deadline, _, _, rfl, rfl, ?_⟩
        unfold isOpt okP at q
        rw [e3', decide_eq_true e4, ed, e5', Bool.true_and, Bool.true_and, Bool.true_and, Bool.true_and] at q
        exact q
      · unfold isOpt okP
        rw [show decide (s0 + z.length ≤ c.first) = false from Bool.eq_false_iff.mpr e5, Bool.false_and, Bool.and_false, Bool.and_false, Bool.and_false]
    · refine iteT' (by rw [decide_eq_false e4]; rfl) (no ?_)
      unfold isOpt
      rw [decide_eq_false e4, Bool.false_and, Bool.and_false]
  · refine ⟨_, rfl, iteT' rfl (no ?_)⟩
    unfold isOpt
    rw [show decide (z.earliest ≤ s0) = false from Bool.eq_false_iff.mpr e3, Bool.false_and]
end
end DP
namespace DP
open PySem PySem.Spec PyProof.Rows L2
abbrev s_options : Stmt := topS 33
theorem sc_options : FnScope ["world", "number", "recording", "starts", "pairs", "start", "p", "pair"] ["world", "number"] (defScope s_options) := ⟨rfl, rfl, rfl, by decide +kernel, rfl, by decide +kernel, by decide +kernel⟩
def allS (s : Int) (j : Nat) : List (Int × Int) := (List.range j).map fun (k : Nat) => (s, (k : Int))
def allR (z : RecD) (m i : Nat) : List (Int × Int) := (List.range i).flatMap fun (t : Nat) => allS (z.earliest + (t : Int)) m
def optQ (W : WorldD) (z : RecD) (q : Int × Int) : Bool := match W.pass[q.2.toNat]? with
  | some c => isOpt z q.1 c
  | none => false
theorem allS_succ (s : Int) (j : Nat) : allS s (j + 1) = allS s j ++ [(s, (j : Int))] := by
  unfold allS
  rw [List.range_succ, List.map_append]
  rfl
theorem allR_succ (z : RecD) (m i : Nat) : allR z m (i + 1) = allR z m i ++ allS (z.earliest + (i : Int)) m := by
  unfold allR
  rw [List.range_succ, List.flatMap_append, List.flatMap_cons, List.flatMap_nil, List.append_nil]
theorem allS_len (s : Int) (j : Nat) : (allS s j).length = j := by
  unfold allS
  rw [List.length_map, List.length_range]
theorem allR_len (z : RecD) (m : Nat) : ∀ i, (allR z m i).length = i * m
  | 0 => by rw [Nat.zero_mul]; rfl
  | i + 1 => by rw [allR_succ, List.length_append, allR_len z m i, allS_len, Nat.succ_mul]
theorem allS_mem {s : Int} {j : Nat} {q : Int × Int} (h : q ∈ allS s j) : ∃ k : Nat, k < j ∧ q = (s, (k : Int)) := by
  unfold allS at h
  obtain ⟨k, hk, e⟩ := List.mem_map.mp h
  exact ⟨k, List.mem_range.mp hk, e.symm⟩
theorem allR_mem {z : RecD} {m i : Nat} {q : Int × Int} (h : q ∈ allR z m i) : ∃ k : Nat, k < m ∧ q.2 = (k : Int) := by
  unfold allR at h
  obtain ⟨t, _, h⟩ := List.mem_flatMap.mp h
  obtain ⟨k, hk, e⟩ := allS_mem h
  exact ⟨k, hk, by rw [e]⟩
theorem allS_opt {W : WorldD} {z : RecD} {s : Int} (h1 : z.earliest ≤ s) (h2 : s ≤ z.latest) : ∀ j, j ≤ W.pass.length → (allS s j).filter (optQ W z) = optS W.pass z s j
  | 0, _ => rfl
  | j + 1, h => by
    have hc : W.pass[j]? = some W.pass[j] := List.getElem?_eq_getElem (by omega)
    have e : optQ W z (s, (j : Int)) = okP z s W.pass[j] := by
      unfold optQ isOpt
      dsimp only
      rw [Int.toNat_natCast, hc]
      dsimp only
      rw [decide_eq_true h1, decide_eq_true h2, Bool.true_and, Bool.true_and]
    rw [allS_succ, List.filter_append, allS_opt h1 h2 j (by omega), optS_succ, List.filter_cons, List.filter_nil, optAt_some hc, e]
theorem allR_opt {W : WorldD} {z : RecD} : ∀ i, i ≤ (z.latest + 1 - z.earliest).toNat → (allR z W.pass.length i).filter (optQ W z) = optR W.pass z i
  | 0, _ => rfl
  | i + 1, h => by
    rw [allR_succ, List.filter_append, allR_opt i (by omega), optR_succ, allS_opt (by omega) (by omega) _ (Nat.le_refl _)]
/-- a range walked, whatever its body -/
theorem rg_loop {lo : Int} {n : Nat} {C : (Hp → Prop) → V → Hp → Prop} {H1 : Hp} {Qd : Hp → Prop} (Pv : Nat → Hp → Prop) (h0 : Pv 0 H1) (hs : ∀ i H, i < n → Pv i H → C (Pv (i + 1)) (.int (lo + i)) H) (hd : ∀ H, Pv n H → Qd H) :
    ∃ W : Nat → Nat → Hp → Prop, (∃ m, W 0 m H1) ∧ ∀ i m H, W i m H → ((Itr lo n).stop i H ∧ Qd H) ∨ ((Itr lo n).go i H ∧ ∃ Nx : Hp → Prop, (∀ H', Nx H' → ∃ m', m' < m ∧ W (i + 1) m' H') ∧ ∀ x H', (Itr lo n).yld i H x H' → C Nx x H') := by
  refine ⟨fun i m H => m = n - i ∧ i ≤ n ∧ Pv i H, ⟨n, by simp, Nat.zero_le _, h0⟩, ?_⟩
  rintro i m H ⟨rfl, hi, p⟩
  by_cases hlt : i < n
  · refine .inr ⟨hlt, Pv (i + 1), fun H' p' => ⟨n - (i + 1), by omega, rfl, hlt, p'⟩, fun x H' y => ?_⟩
    obtain ⟨e, y⟩ := y
    subst e y
    exact hs i _ hlt p
  · have e : i = n := by omega
    subst e
    exact .inl ⟨Nat.le_refl _, hd H p⟩
section
variable {P : Program} {w : World} {K : PySem.W.Frag} {mg : Str → Option Value} {base : Heap} {CL CS CT CR CP CW aS aR fS fT fR fP : Addr}
def spOptions (K : PySem.W.Frag) (CS CT CR CP CW : Addr) : Sp := fun vs H Q _ => ∃ (ac : Addr) (W : WorldD) (i : Nat) (z : RecD), vs = [.ref ac, .int (i : Int)] ∧ WorldOk W ∧ WorldAt K CS CT CR CP CW H ac W ∧ W.recs[i]? = some z ∧
  ∀ t xs H', Same H H' → SqT K H' t xs → Spans K H' xs (optsW W z) → Q (.ref t) H'
set_option maxHeartbeats 8000000 in
theorem d_options (T : TxtW K mg CL CS CT CR CP CW aS aR fS fT fR fP) (D_is_option : DefOk P w K mg base CX0 1 "is_option" ["world", "number", "pair"] (spIsOption K CS CT CR CP CW)) (A : At K mg "options" s_options ["world", "number"]) : DefOk P w K mg base CX0 2 "options" ["world", "number"] (spOptions K CS CT CR CP CW) := by
  have B := T.L.B
  refine A.ok sc_options (fun vs H Q E h => ?_) (fun f cdv A outer s H vs Q E hr h => ?_)
  · obtain ⟨ac, W, i, z, rfl, _⟩ := h
    rfl
  obtain ⟨ac, W, i, z, rfl, wok, hW, hz, q⟩ := h
  obtain ⟨dx, t0, t1, t2, t3, x0, x1, x2, x3, gw, _, _, _, _, p2, q2, p3, q3⟩ := hW.ex
  have l2 := paired_len q2
  have l3 := paired_len q3
  have hi : i < W.recs.length := (List.getElem?_eq_some_iff.mp hz).1
  obtain ⟨x, hx⟩ : ∃ x, x2[i]? = some x := ⟨_, List.getElem?_eq_getElem (by omega)⟩
  obtain ⟨z', hz', ob, od, rfl, o1⟩ := paired_at q2 hx
  rw [hz] at hz'
  have ez := Option.some.inj hz'
  subst ez
  have ok := wok.recs z (List.mem_of_getElem? hz)
  have nP := wok.nPass
  have k1 := ok.earliest
  have k2 := ok.latest
  have k3 := wok.horizon
  have hn21 : (z.latest + 1 - z.earliest).toNat ≤ 21 := by omega
  refine ⟨_, pss_cons (ps_set (i := 2) sc_options.nd rfl (Or.inl rfl) (pe_ix ix_tup (pe_fld (pv 0) rfl) (pv 1) (fun _ _ => rfl)))
  (pss_cons (ps_set (i := 3) sc_options.nd rfl (Or.inl rfl) (pe_callTy (cr_range2) (by rfl) B.range (by decide +kernel) (pa_cons (pe_fld (pv 2) rfl) (pa_cons (pe_op op_add (pe_fld (pv 2) rfl) pe_int) pa_nil))))
  (pss_cons (ps_setLc2 (own := [("start", 5), ("p", 6)]) (vs1 := [6]) (i := 4) rfl sc_options.nd rfl rfl (sw_true rfl rfl rfl (by decide +kernel)) (pi_rngV (pv 3)) (blkOk_by (own := [("start", 5), ("p", 6)]) (N := ["world", "number", "recording", "starts", "pairs", "start", "p", "pair"]) (sc := defScope s_options) (by decide +kernel)) (by decide +kernel) (fun _ _ _ _ _ => pg_name (i := 5) sc_options.nd rfl (Or.inl rfl)) (fun _ _ _ _ _ => pts_nil) (fun _ _ _ _ _ => pi_range1 (by rfl) B.range (pa_cons (pe_callB ((call_len_seqK (K := K) rfl)) (by rfl) B.len (by decide +kernel) (pa_cons (pe_fldK (K := K) rfl (pv 0) rfl) pa_nil)) pa_nil)) (fun _ _ _ _ _ => pg_name (i := 6) sc_options.nd rfl (Or.inl rfl)) (fun _ _ _ _ _ => pts_nil) (fun _ _ _ _ _ => (pe_tup (pa_cons (pv 5) (pa_cons (pv 6) pa_nil)))))
  (pss_one (ps_ret (pe_callTy (call_tuple_of) (by rfl) B.tuple (by decide +kernel) (pa_cons (pe_lc (own := [("pair", 7)])  rfl sc_options.nd (pi_list (pv 4)) (blkOk_by (own := [("pair", 7)]) (N := ["world", "number", "recording", "starts", "pairs", "start", "p", "pair"]) (sc := defScope s_options) (by decide +kernel)) (fun _ _ _ _ _ => pg_name (i := 7) sc_options.nd rfl (Or.inl rfl)) (fun _ _ _ _ _ => pts_one (pt_val (pe_f D_is_option (hr.mono (by omega)) pass0 (pa_cons (pv 0) (pa_cons (pv 1) (pa_cons (pv 7) pa_nil)))))) (fun _ _ _ _ _ => (pv 7))) pa_nil))))))
    , ?_⟩
  refine ⟨_, rfl, ac, CW, dx, _, _, rfl, gw, T.c_World.cl, T.n_World_recordings, lk_World_recordings, _, rfl, t2, x2, (i : Int), _, rfl, rfl, p2, atI_nat hx, ?_⟩
  refine ⟨_, rfl, ob, CR, od, _, _, rfl, o1, T.c_Recording.cl, T.n_Recording_earliest, lk_Recording_earliest, _, rfl, ob, CR, od, _, _, rfl, o1, T.c_Recording.cl, T.n_Recording_latest, lk_Recording_latest, _, _, rfl, rfl, z.earliest, z.latest + 1, rfl, fun r hr1 => ?_⟩
  have s1 := same_new hr1 (.rng z.earliest (z.latest + 1))
  have hr2 : (upd H r (.rng z.earliest (z.latest + 1))) r = some (.rng z.earliest (z.latest + 1)) := upd_same
  generalize upd H r (.rng z.earliest (z.latest + 1)) = H1 at s1 hr2
  refine ⟨_, rfl, r, z.earliest, z.latest + 1, rfl, hr2, ⟨by omega, by omega, by omega, by omega⟩, fun D hD => ?_⟩
  have nD := s1.free hD
  have al := allR_len z W.pass.length
  refine rg_loop (lo := z.earliest) (n := (z.latest + 1 - z.earliest).toNat) (fun i H' => ∃ xs, Same H H' ∧ H' D = some (.lst xs) ∧ Spans K H' xs (allR z W.pass.length i)) ⟨[], s1.trans (same_new hD _), upd_same, (show Spans K _ [] [] from .nil)⟩ (fun i1 H2 hi1 hI => ?_) (fun H2 hI => ?_)
  · obtain ⟨xs, hs, hDD, hsp⟩ := hI
    refine ⟨rfl, ?_⟩
    refine ⟨_, rfl, ac, CW, dx, _, _, rfl, hs _ _ gw, T.c_World.cl, T.n_World_passes, lk_World_passes, t3, x3, rfl, .inr (Same.tup hs p3), _, rfl, by omega, by omega, ?_⟩
    refine rg_loop (lo := 0) (n := (x3.length : Int).toNat) (fun j H' => ∃ xs, Same H H' ∧ H' D = some (.lst xs) ∧ Spans K H' xs (allR z W.pass.length i1 ++ allS (z.earliest + (i1 : Int)) j)) ⟨xs, hs, hDD, by rw [show allS (z.earliest + (i1 : Int)) 0 = [] from rfl, List.append_nil]; exact hsp⟩ (fun j H3 hj hI => ?_) (fun H3 hI => ?_)
    · obtain ⟨xs, hs, hDD, hsp⟩ := hI
      have hll := paired_len hsp
      rw [List.length_append, allS_len, al] at hll
      have hm := Nat.mul_le_mul (show i1 ≤ 21 by omega) nP
      refine ⟨rfl, _, rfl, _, rfl, sz2_, fun t ht => ?_⟩
      have sB := same_new ht (.tup [.int (z.earliest + (i1 : Int)), .int (0 + (j : Int))])
      refine ⟨xs, sB _ _ hDD, small1000 (by omega), xs ++ [.ref t], same_at nD (hs.trans sB) _, upd_same, ?_⟩
      rw [allS_succ, ← List.append_assoc]
      exact Spans.upd (paired_snoc (hsp.same sB) ⟨t, rfl, SqT.of (by rw [upd_same, Int.zero_add])⟩) (sB _ _ hDD)
    · obtain ⟨xs, hs, hDD, hsp⟩ := hI
      rw [show (x3.length : Int).toNat = W.pass.length by omega, ← allR_succ] at hsp
      exact ⟨xs, hs, hDD, hsp⟩
  obtain ⟨xs, hs, hDD, hsp⟩ := hI
  have hll := paired_len hsp
  rw [al] at hll
  have hm := Nat.mul_le_mul hn21 nP
  have hN := allR_opt (W := W) (z := z) _ (Nat.le_refl _)
  generalize hA : allR z W.pass.length (z.latest + 1 - z.earliest).toNat = A at hsp hN
  refine ⟨_, rfl, D, rfl, ⟨_, SqL.of hDD⟩, fun E hE => lc_it (walk_list (K := K) (a := D) (xs := xs)) (fun j H' => ∃ ys, Same H2 H' ∧ H' E = some (.lst ys) ∧ Spans K H' ys ((A.take j).filter (optQ W z))) ⟨[], same_new hE _, upd_same, (show Spans K _ [] [] from .nil)⟩ (fun j H' _ hI => by obtain ⟨ys, s, _⟩ := hI; exact SqL.of (s _ _ hDD)) (fun j x H3 H4 hj hI hy => ?_) (fun H3 hI => ?_)⟩
  · obtain ⟨ys, s3, hEE, hsq⟩ := hI
    obtain ⟨rfl, hx3⟩ := hy
    obtain ⟨qq, hqq, t, rfl, htt⟩ := paired_at hsp hx3
    have hmem : qq ∈ allR z W.pass.length (z.latest + 1 - z.earliest).toNat := by rw [hA]; exact List.mem_of_getElem? hqq
    obtain ⟨k, hk, ek⟩ := allR_mem hmem
    obtain ⟨c, hc⟩ : ∃ c, W.pass[k]? = some c := ⟨_, List.getElem?_eq_getElem hk⟩
    have eo : optQ W z qq = isOpt z qq.1 c := by
      unfold optQ
      rw [ek, Int.toNat_natCast, hc]
    have tk : (A.take (j + 1)).filter (optQ W z) = (A.take j).filter (optQ W z) ++ if optQ W z qq = true then [qq] else [] := by
      rw [List.take_add_one, hqq, Option.toList_some, List.filter_append, List.filter_cons, List.filter_nil]
    have lys := paired_len hsq
    have lf : ((A.take j).filter (optQ W z)).length ≤ j := Nat.le_trans (List.length_filter_le _ _) (by rw [List.length_take]; omega)
    refine ⟨rfl, _, rfl, _, rfl, _, rfl, ac, t, W, i, k, z, c, qq.1, rfl, hW.same (hs.trans s3), hz, hc, by rw [← ek]; exact Same.tup s3 htt, _, rfl, ite2 (fun k4 => ?_) (fun k4 => ?_)⟩
    · refine ⟨_, rfl, ys, hEE, small1000 (by omega), ys ++ [.ref t], same_at hE s3 _, upd_same, ?_⟩
      rw [tk, eo, if_pos k4]
      exact Spans.upd (paired_snoc hsq ⟨t, rfl, Same.tup s3 htt⟩) hEE
    · refine ⟨ys, s3, hEE, ?_⟩
      rw [tk, eo, if_neg k4, List.append_nil]
      exact hsq
  obtain ⟨ys, s3, hEE, hsq⟩ := hI
  have lA := paired_len hsp
  rw [lA, List.take_length, hN] at hsq
  refine ⟨E, ys, rfl, .inl ⟨SqL.of hEE, fun t ht => ?_⟩⟩
  exact q t ys _ ((hs.trans s3).trans (same_new ht _)) (SqT.of upd_same) (hsq.same (same_new ht _))
end
end DP
namespace DP
open PySem PySem.Spec PyProof.Rows L2
abbrev s_recording_choices : Stmt := topS 53
theorem sc_recording_choices : FnScope ["world", "r"] ["world", "r"] (defScope s_recording_choices) := ⟨rfl, rfl, rfl, by decide +kernel, rfl, by decide +kernel, by decide +kernel⟩
abbrev s_pass_choices : Stmt := topS 54
theorem sc_pass_choices : FnScope ["world", "p", "station"] ["world", "p"] (defScope s_pass_choices) := ⟨rfl, rfl, rfl, by decide +kernel, rfl, by decide +kernel, by decide +kernel⟩
theorem rw_sta {CT : Addr} {H : Hp} {x1 : List V} {l : List StaD} (q1 : Paired (StaAt CT H) x1 l) {i : Nat} {z : StaD} (hz : l[i]? = some z) : ∃ ob od, x1[i]? = some (.ref ob) ∧ H ob = some (.ins CT od (staF z)) := by
  have l2 := paired_len q1
  obtain ⟨x, hx⟩ : ∃ x, x1[i]? = some x := ⟨_, List.getElem?_eq_getElem (by have := (List.getElem?_eq_some_iff.mp hz).1; omega)⟩
  obtain ⟨z', hz', ob, od, rfl, o1⟩ := paired_at q1 hx
  rw [hz] at hz'
  cases hz'
  exact ⟨ob, od, hx, o1⟩
theorem rw_pas {K : PySem.W.Frag} {CP : Addr} {H : Hp} {x3 : List V} {l : List PasD} (q3 : Paired (PasAt K CP H) x3 l) {i : Nat} {z : PasD} (hz : l[i]? = some z) : ∃ pb pd ts, x3[i]? = some (.ref pb) ∧ H pb = some (.ins CP pd (pasF z ts)) ∧ SqT K H ts [.int z.first, .int z.fin] := by
  have l2 := paired_len q3
  obtain ⟨x, hx⟩ : ∃ x, x3[i]? = some x := ⟨_, List.getElem?_eq_getElem (by have := (List.getElem?_eq_some_iff.mp hz).1; omega)⟩
  obtain ⟨z', hz', pb, pd, ts, rfl, c1, c2⟩ := paired_at q3 hx
  rw [hz] at hz'
  cases hz'
  exact ⟨pb, pd, ts, hx, c1, c2⟩
inductive EntX where
  | non : EntX
  | opn : EntX
  | at_ (s p : Int) : EntX
  | ant (a : Int) : EntX
def entX : EntX → PyData
  | .non => .none
  | .opn => .str "open"
  | .at_ s p => .tuple [.int s, .int p]
  | .ant a => .int a
def mX : EntM → EntX
  | .non => .non
  | .opn => .opn
  | .at_ s p => .at_ s p
def tX : EntT → EntX
  | .non => .non
  | .opn => .opn
  | .ant a => .ant a
theorem entX_m (e : EntM) : entX (mX e) = entM e := by cases e <;> rfl
theorem entX_t (e : EntT) : entX (tX e) = entT e := by cases e <;> rfl
def antOf (W : WorldD) (z : PasD) : Int := match W.stas[z.sta]? with
  | some s => s.antennas
  | none => 0
def choR (W : WorldD) (z : RecD) : List EntX := .non :: (optsW W z).map fun q => EntX.at_ q.1 q.2
def choP (W : WorldD) (z : PasD) : List EntX := .non :: (List.range (antOf W z).toNat).map fun (k : Nat) => EntX.ant (k : Int)
def choPy (l : List EntX) : PyData := .tuple (l.map entX)
theorem spans_dpX {K : PySem.W.Frag} {H : Hp} {xs : List V} {qs : List (Int × Int)} (h : Spans K H xs qs) : DpAll K H xs ((qs.map fun q => EntX.at_ q.1 q.2).map entX) := by
  induction h with
  | nil => exact .nil
  | cons a _ ih => exact .cons (dp_at a) ih
theorem rgv_dp {K : PySem.W.Frag} {H : Hp} (n : Int) : DpAll K H (rgV 0 n) (((List.range n.toNat).map fun (k : Nat) => EntX.ant (k : Int)).map entX) := by
  unfold rgV
  rw [Int.sub_zero, List.map_map]
  generalize n.toNat = k
  have : ∀ l : List Nat, DpAll K H (l.map fun (i : Nat) => V.int (0 + (i : Int))) (l.map (entX ∘ fun (k : Nat) => EntX.ant (k : Int))) := fun l => by
    induction l with
    | nil => exact .nil
    | cons a r ih =>
      refine .cons ?_ ih
      show Dp K H (V.int (0 + (a : Int))) (.int (a : Int))
      rw [Int.zero_add]
      exact .int _
  exact this _
section
variable {P : Program} {w : World} {K : PySem.W.Frag} {mg : Str → Option Value} {base : Heap} {CL CS CT CR CP CW aS aR fS fT fR fP CM : Addr}
def spRC (K : PySem.W.Frag) (CS CT CR CP CW : Addr) : Sp := fun vs H Q _ => ∃ (ac : Addr) (W : WorldD) (i : Nat) (z : RecD), vs = [.ref ac, .int (i : Int)] ∧ WorldOk W ∧ WorldAt K CS CT CR CP CW H ac W ∧ W.recs[i]? = some z ∧ ∀ v H', Same H H' → Dp K H' v (choPy (choR W z)) → Q v H'
theorem d_rec_cho (B : Bt mg) (D_options : DefOk P w K mg base CX0 2 "options" ["world", "number"] (spOptions K CS CT CR CP CW)) (A : At K mg "recording_choices" s_recording_choices ["world", "r"]) : DefOk P w K mg base CX0 3 "recording_choices" ["world", "r"] (spRC K CS CT CR CP CW) := by
  refine A.ok sc_recording_choices (fun vs H Q E h => ?_) (fun f cdv A outer s H vs Q E hr h => ?_)
  · obtain ⟨ac, W, i, z, rfl, _⟩ := h
    rfl
  obtain ⟨ac, W, i, z, rfl, wok, hW, hz, q⟩ := h
  refine ⟨_, pss_one (ps_ret (pe_op op_catT (pe_tup (pa_cons pe_non pa_nil)) (pe_f D_options (hr.mono (by omega)) pass0 (pa_cons (pv 0) (pa_cons (pv 1) pa_nil)))))
    , ?_⟩
  refine ⟨(by show 1 ≤ sizeLine; decide), fun u hu => ?_⟩
  have su := same_new hu (.tup [V.non])
  have hut : SqT K (upd H u (.tup [V.non])) u [V.non] := SqT.of upd_same
  generalize upd H u (.tup [V.non]) = H1 at su hut
  refine ⟨_, rfl, _, rfl, ac, W, i, z, rfl, wok, hW.same su, hz, fun t xs H2 s2 ht hsp => ?_⟩
  have lx := paired_len hsp
  refine ⟨u, t, _, _, rfl, rfl, Same.tup s2 hut, ht, (fun h => nomatch h), ?_, fun e => ?_, fun e p hp => ?_⟩
  · have := optsW_len wok (wok.recs z (List.mem_of_getElem? hz))
    show 1 + xs.length ≤ sizeLine
    exact Nat.le_trans (by omega) (show 300 ≤ sizeLine by decide)
  · subst e
    refine q (.ref u) _ (su.trans s2) (.tup (Same.tup s2 hut) ?_)
    cases hq : optsW W z with
    | nil => unfold choR; rw [hq]; exact .cons .non .nil
    | cons a r => rw [hq] at lx; cases lx
  · have sp := same_new hp (.tup ([V.non] ++ xs))
    exact q (.ref p) _ ((su.trans s2).trans sp) (.tup (SqT.of upd_same) (.cons .non (dpAll_same sp (spans_dpX hsp))))
def spPC (K : PySem.W.Frag) (CS CT CR CP CW : Addr) : Sp := fun vs H Q _ => ∃ (ac : Addr) (W : WorldD) (i : Nat) (z : PasD), vs = [.ref ac, .int (i : Int)] ∧ WorldOk W ∧ WorldAt K CS CT CR CP CW H ac W ∧ W.pass[i]? = some z ∧ ∀ v H', Same H H' → Dp K H' v (choPy (choP W z)) → Q v H'
theorem d_pas_cho (T : TxtW K mg CL CS CT CR CP CW aS aR fS fT fR fP) (A : At K mg "pass_choices" s_pass_choices ["world", "p"]) : DefOk P w K mg base CX0 1 "pass_choices" ["world", "p"] (spPC K CS CT CR CP CW) := by
  have B := T.L.B
  refine A.ok sc_pass_choices (fun vs H Q E h => ?_) (fun f cdv A outer s H vs Q E hr h => ?_)
  · obtain ⟨ac, W, i, z, rfl, _⟩ := h
    rfl
  obtain ⟨ac, W, i, z, rfl, wok, hW, hz, q⟩ := h
  obtain ⟨dx, t0, t1, t2, t3, x0, x1, x2, x3, gw, j0, q0, j1, q1, j2, q2, j3, q3⟩ := hW.ex
  obtain ⟨pb, pd, ts, hpb, c1, c2⟩ := rw_pas q3 hz
  have zok := wok.pass z (List.mem_of_getElem? hz)
  obtain ⟨zt, hzt⟩ : ∃ zt, W.stas[z.sta]? = some zt := ⟨_, List.getElem?_eq_getElem zok.sta⟩
  obtain ⟨sb, sd, hsb, g1⟩ := rw_sta q1 hzt
  have ztok := wok.stas zt (List.mem_of_getElem? hzt)
  refine ⟨_, pss_cons (ps_set (i := 2) sc_pass_choices.nd rfl (Or.inl rfl) (pe_fld (pe_ix ix_tup (pe_fld (pv 0) rfl) (pv 1) (fun _ _ => rfl)) rfl))
  (pss_one (ps_ret (pe_op op_catT (pe_tup (pa_cons pe_non pa_nil)) (pe_tupRg rfl (by rfl) B.tuple (prg_1 (by rfl) B.range (pe_fld (pe_ix ix_tup (pe_fld (pv 0) rfl) (pv 2) (fun _ _ => rfl)) rfl))))))
    , ?_⟩
  refine ⟨_, rfl, ac, CW, dx, _, _, rfl, gw, T.c_World.cl, T.n_World_passes, lk_World_passes, _, rfl, t3, x3, (i : Int), _, rfl, rfl, j3, atI_nat hpb, pb, CP, pd, _, _, rfl, c1, T.c_Pass.cl, T.n_Pass_station, lk_Pass_station, ?_⟩
  refine ⟨(by show 1 ≤ sizeLine; decide), fun u hu => ?_⟩
  have su := same_new hu (.tup [V.non])
  have hut : SqT K (upd H u (.tup [V.non])) u [V.non] := SqT.of upd_same
  generalize upd H u (.tup [V.non]) = H1 at su hut
  refine ⟨_, rfl, ac, CW, dx, _, _, rfl, su _ _ gw, T.c_World.cl, T.n_World_stations, lk_World_stations, _, rfl, t1, x1, (z.sta : Int), _, rfl, rfl, Same.tup su j1, atI_nat hsb, sb, CT, sd, _, _, rfl, su _ _ g1, T.c_Station.cl, T.n_Station_antennas, lk_Station_antennas, _, rfl, ?_, fun v hv => ?_⟩
  · exact .of_le (by omega) (by have := ztok.antennas; omega) (by omega) (by have := ztok.antennas; omega)
  have sv := same_new hv (.tup (rgV 0 zt.antennas))
  have ea : antOf W z = zt.antennas := by unfold antOf; rw [hzt]
  refine ⟨u, v, _, _, rfl, rfl, Same.tup sv hut, SqT.of upd_same, (fun h => nomatch h), ?_, fun e => ?_, fun e p hp => ?_⟩
  · rw [rgV_length]
    have := ztok.antennas
    show 1 + (zt.antennas - 0).toNat ≤ sizeLine
    exact Nat.le_trans (show _ ≤ 100 by omega) (show 100 ≤ sizeLine by decide)
  · have e0 := congrArg List.length e
    rw [rgV_length, List.length_nil] at e0
    have := ztok.antennas
    omega
  · have sp := same_new hp (.tup ([V.non] ++ rgV 0 zt.antennas))
    refine q (.ref p) _ ((su.trans sv).trans sp) (.tup (SqT.of upd_same) (.cons .non ?_))
    rw [ea]
    exact rgv_dp _
end
end DP
namespace DP
open PySem PySem.Spec PyProof.Rows L2
abbrev s__law_weight : Stmt := topS 87
theorem sc__law_weight : FnScope ["world", "plan", "worths", "fees", "base", "total", "r", "urgency", "p", "x"] ["world", "plan"] (defScope s__law_weight) := ⟨rfl, rfl, rfl, by decide +kernel, rfl, by decide +kernel, by decide +kernel⟩
theorem base_at {b rank : Int} (h : 1 ≤ rank ∧ rank ≤ 3) : atI [V.int (b * b * b), V.int (b * b), V.int b] (rank - 1) = some (.int (b ^ (4 - rank).toNat)) := by
  rcases (show rank = 1 ∨ rank = 2 ∨ rank = 3 by omega) with rfl | rfl | rfl
  · show some (V.int (b * b * b)) = some (.int (b ^ 3))
    rw [Int.pow_succ, Int.pow_succ, Int.pow_succ, Int.pow_zero, Int.one_mul]
  · show some (V.int (b * b)) = some (.int (b ^ 2))
    rw [Int.pow_succ, Int.pow_succ, Int.pow_zero, Int.one_mul]
  · show some (V.int b) = some (.int (b ^ 1))
    rw [Int.pow_succ, Int.pow_zero, Int.one_mul]
section
variable {P : Program} {w : World} {K : PySem.W.Frag} {mg : Str → Option Value} {base : Heap}
def spLWgt (K : PySem.W.Frag) : Sp := fun vs H Q _ => ∃ (wd : Addr) (v : V) (W : WorldD) (c : CaseD), vs = [.ref wd, v] ∧ WorldOk W ∧ WdAt K H wd W ∧ CaseG W false c ∧ Dp K H v (casePy c) ∧ ∀ H', Same H H' → Q (.int (weightW W c)) H'
set_option maxHeartbeats 8000000 in
theorem d_law_weight (B : Bt mg) (A : At K mg "_law_weight" s__law_weight ["world", "plan"]) : DefOk P w K mg base CX0 1 "_law_weight" ["world", "plan"] (spLWgt K) := by
  refine A.ok sc__law_weight (fun vs H Q E h => ?_) (fun f cdv A outer s H vs Q E hr h => ?_)
  · obtain ⟨wd, v, W, c, rfl, _⟩ := h
    rfl
  obtain ⟨wd, v, W, c, rfl, wok, hwd, cg, hc, q⟩ := h
  obtain ⟨t, tm, tt, xm, xt, rfl, ht, hm, htt, hxm, hxt, lm, lt⟩ := case_two hc
  obtain ⟨wa, wb, wc, we, xa, xb, xc, xd, g, a1, a2, b1, b2, c1, c2, d1, d2⟩ := hwd.ex
  have m2 := dpAll_len c2
  have m3 := dpAll_len d2
  rw [List.length_map] at m2 m3
  have nR := wok.nRecs
  have nP := wok.nPass
  have nM := cg.nM
  have nT := cg.nT
  obtain ⟨bb0, bb1, _⟩ := base_pos wok
  refine ⟨_, pss_cons (ps_set (i := 2) sc__law_weight.nd rfl (Or.inl rfl) (pe_callB (cr_sum rfl) (by rfl) B.sum (by decide +kernel) (pa_cons (pe_lc (own := [("x", 9)])  rfl sc__law_weight.nd (pi_list (pe_dget (hu_of hr) (pv 0) pe_str (fun _ _ => rfl))) (blkOk_by (own := [("x", 9)]) (N := ["world", "plan", "worths", "fees", "base", "total", "r", "urgency", "p", "x"]) (sc := defScope s__law_weight) (by decide +kernel)) (fun _ _ _ _ _ => pg_name (i := 9) sc__law_weight.nd rfl (Or.inl rfl)) (fun _ _ _ _ _ => pts_nil) (fun _ _ _ _ _ => (pe_ix (ix_tupK (K := K) rfl) (pe_ix (ix_tupK (K := K) rfl) (pv 9) pe_int (fun _ _ => rfl)) pe_int (fun _ _ => rfl)))) pa_nil)))
  (pss_cons (ps_set (i := 3) sc__law_weight.nd rfl (Or.inl rfl) (pe_callB (cr_sum rfl) (by rfl) B.sum (by decide +kernel) (pa_cons (pe_lc (own := [("x", 9)])  rfl sc__law_weight.nd (pi_list (pe_dget (hu_of hr) (pv 0) pe_str (fun _ _ => rfl))) (blkOk_by (own := [("x", 9)]) (N := ["world", "plan", "worths", "fees", "base", "total", "r", "urgency", "p", "x"]) (sc := defScope s__law_weight) (by decide +kernel)) (fun _ _ _ _ _ => pg_name (i := 9) sc__law_weight.nd rfl (Or.inl rfl)) (fun _ _ _ _ _ => pts_nil) (fun _ _ _ _ _ => (pe_ix (ix_tupK (K := K) rfl) (pe_ix (ix_tupK (K := K) rfl) (pv 9) pe_int (fun _ _ => rfl)) pe_int (fun _ _ => rfl)))) pa_nil)))
  (pss_cons (ps_set (i := 4) sc__law_weight.nd rfl (Or.inl rfl) (pe_op op_add pe_int (pe_callB (call_max2 rfl) (by rfl) B.max (by decide +kernel) (pa_cons (pv 2) (pa_cons (pv 3) pa_nil)))))
  (pss_cons (ps_set (i := 5) sc__law_weight.nd rfl (Or.inl rfl) pe_int)
  (pss_cons (ps_for PassesOwn.never rfl (pi_range1 (by rfl) B.range (pa_cons (pe_callB (call_len_seq) (by rfl) B.len (by decide +kernel) (pa_cons (pe_ix ix_tup (pv 1) pe_int (fun _ _ => rfl)) pa_nil)) pa_nil)) (pg_name (i := 6) sc__law_weight.nd rfl (Or.inl rfl))
      (pss_one (ps_if (pt_cmpR op_notN (pe_ix ix_tup (pe_ix ix_tup (pv 1) pe_int (fun _ _ => rfl)) (pv 6) (fun _ _ => rfl)) pe_non (nomark _))
          (pss_cons (ps_set (i := 7) sc__law_weight.nd rfl (Or.inl rfl) (pe_ix ix_tup (pe_ix ix_list (pe_dget (hu_of hr) (pv 0) pe_str (fun _ _ => rfl)) (pv 6) (fun _ _ => rfl)) pe_int (fun _ _ => rfl)))
          (pss_one (ps_set (i := 5) sc__law_weight.nd rfl (Or.inl rfl) (pe_op op_add (pv 5) (pe_op op_mul (pe_ix ix_tup (pv 7) pe_int (fun _ _ => rfl)) (pe_ix ix_list (pe_lst (pa_cons (pe_op op_mul (pe_op op_mul (pv 4) (pv 4)) (pv 4)) (pa_cons (pe_op op_mul (pv 4) (pv 4)) (pa_cons (pv 4) pa_nil)))) (pe_op op_sub (pe_ix ix_tup (pv 7) pe_int (fun _ _ => rfl)) pe_int) (fun _ _ => rfl)))))))
          (pss_nil))))
  (pss_cons (ps_for PassesOwn.never rfl (pi_range1 (by rfl) B.range (pa_cons (pe_callB (call_len_seq) (by rfl) B.len (by decide +kernel) (pa_cons (pe_ix ix_tup (pv 1) pe_int (fun _ _ => rfl)) pa_nil)) pa_nil)) (pg_name (i := 8) sc__law_weight.nd rfl (Or.inl rfl))
      (pss_one (ps_if (pt_cmpR op_notN (pe_ix ix_tup (pe_ix ix_tup (pv 1) pe_int (fun _ _ => rfl)) (pv 8) (fun _ _ => rfl)) pe_non (nomark _))
          (pss_one (ps_set (i := 5) sc__law_weight.nd rfl (Or.inl rfl) (pe_op op_sub (pv 5) (pe_ix ix_tup (pe_ix ix_tup (pe_ix ix_list (pe_dget (hu_of hr) (pv 0) pe_str (fun _ _ => rfl)) (pv 8) (fun _ _ => rfl)) pe_int (fun _ _ => rfl)) pe_int (fun _ _ => rfl)))))
          (pss_nil))))
  (pss_one (ps_ret (pv 5))))))))
    , ?_⟩
  refine ⟨_, rfl, wd, _, rfl, get_r g, wc, rfl, ⟨_, SqL.of c1⟩, fun D hD => lc_list (K := K) (a := wc) (xs := xc) (fun i H' => Same H H' ∧ H' D = some (.lst (((W.recs.take i).map (·.worth)).map V.int))) ⟨same_new hD _, upd_same⟩ (fun i H' _ h => SqL.of (h.1 _ _ c1)) (fun i x H1 hx hI => ?_) (fun H1 hI => ?_)⟩
  · obtain ⟨hs, hd⟩ := hI
    obtain ⟨z, hz, dz⟩ := dpAll_get c2 hx
    obtain ⟨r0, r1, r2, rfl, k1, k2, k3⟩ := rec_open (dp_same hs dz)
    refine ⟨rfl, _, rfl, r0, _, 3, _, rfl, rfl, k1, rfl, r2, _, 0, _, rfl, rfl, k3, rfl, ?_⟩
    exact lc_step (f := fun z : RecD => z.worth) hz (by omega) hD hs hd
  obtain ⟨s1, hD1⟩ := hI
  rw [m2, List.take_length] at hD1
  refine ⟨D, _, rfl, SqL.of hD1, ?_⟩
  have d1' := s1 _ _ d1
  have g1 := s1 _ _ g
  refine ⟨_, rfl, wd, _, rfl, get_p g1, we, rfl, ⟨_, SqL.of d1'⟩, fun F hF => lc_list (K := K) (a := we) (xs := xd) (fun i H' => Same H1 H' ∧ H' F = some (.lst (((W.pass.take i).map (·.fee)).map V.int))) ⟨same_new hF _, upd_same⟩ (fun i H' _ h => SqL.of (h.1 _ _ d1')) (fun i x H2 hx hI => ?_) (fun H2 hI => ?_)⟩
  · obtain ⟨hs, hd⟩ := hI
    obtain ⟨z, hz, dz⟩ := dpAll_get d2 hx
    obtain ⟨r0, r1, r2, rfl, k1, k2, k3⟩ := pas_open (dp_same (s1.trans hs) dz)
    refine ⟨rfl, _, rfl, r0, _, 4, _, rfl, rfl, k1, rfl, r2, _, 2, _, rfl, rfl, k3, rfl, ?_⟩
    exact lc_step (f := fun z : PasD => z.fee) hz (by omega) hF hs hd
  obtain ⟨s2, hF1⟩ := hI
  rw [m3, List.take_length] at hF1
  have s12 := s1.trans s2
  refine ⟨F, _, rfl, SqL.of hF1, _, rfl, _, rfl, _, _, rfl, _, _, rfl, rfl, ?_⟩
  refine ⟨_, rfl, t, _, 0, _, rfl, rfl, Same.tup s12 ht, rfl, tm, xm, rfl, .inr (Same.tup s12 hm), _, rfl, by omega, by omega, for_range (lo := 0) (n := (xm.length : Int).toNat) (fun i σ H' => ∃ y6 y7, σ = [some (.ref wd), some (.ref t), some (.int (sumW W)), some (.int (sumF W)), some (.int (baseW W)), some (.int (recL W c (fun z => some (recW W z)) i).sum), y6, y7, none, none] ∧ Same H H') ⟨none, none, rfl, s12⟩ (fun i σ H3 hi hI => ?_) (fun σ H3 hI => ?_)⟩
  · obtain ⟨y6, y7, rfl, hs⟩ := hI
    have hi' : i < W.recs.length := by omega
    obtain ⟨z, hz⟩ : ∃ z, W.recs[i]? = some z := ⟨_, List.getElem?_eq_getElem hi'⟩
    obtain ⟨e, he⟩ : ∃ e, c.made[i]? = some e := ⟨_, List.getElem?_eq_getElem (by omega)⟩
    obtain ⟨y, hy, dy⟩ := dpAll_get2 hxm he
    have zok := wok.recs z (List.mem_of_getElem? hz)
    have ra := recAt_some (g := fun z => some (recW W z)) hz he
    have rs := recL_succ W c (fun z => some (recW W z)) i
    rw [ra] at rs
    refine ⟨_, rfl, t, _, 0, _, rfl, rfl, Same.tup hs ht, rfl, _, rfl, tm, xm, (i : Int), y, rfl, by rw [Int.zero_add], Same.tup hs hm, atI_nat hy, rfl, _, rfl, ?_⟩
    have hon : onM e = true ↔ y ≠ V.non := by
      cases e with
      | non => cases dy; exact ⟨fun h => Bool.noConfusion h, fun h => absurd rfl h⟩
      | opn => cases dy; exact ⟨fun _ h => V.noConfusion h, fun _ => rfl⟩
      | at_ a b => obtain ⟨u, xs, rfl, _⟩ := dp_tup dy; exact ⟨fun _ h => V.noConfusion h, fun _ => rfl⟩
    by_cases on : onM e = true
    · refine iteT' (by rw [decide_eq_false (hon.mp on)]; rfl) ?_
      obtain ⟨x, hx, dx⟩ := dpAll_get2 (dpAll_same hs c2) hz
      obtain ⟨r0, r1, r2, rfl, k1, k2, k3⟩ := rec_open dx
      refine ⟨_, rfl, wd, _, rfl, get_r (hs _ _ g), _, rfl, wc, xc, (i : Int), _, rfl, by rw [Int.zero_add], SqL.of (hs _ _ c1), atI_nat hx, r0, _, 3, _, rfl, rfl, k1, rfl, ?_⟩
      have w0 := zok.worth
      have w1 := zok.rank
      have b2 : baseW W * baseW W ≤ 10001 * 10001 := Int.mul_le_mul bb1 bb1 (by omega) (by omega)
      have b3 : 0 ≤ baseW W * baseW W := Int.mul_nonneg (by omega) (by omega)
      refine ⟨_, rfl, _, rfl, r2, _, 0, _, rfl, rfl, k3, rfl, _, rfl, _, rfl, _, _, rfl, rfl, .inl ⟨by omega, by omega⟩, _, rfl, _, _, rfl, rfl, .inr ⟨by omega, by omega⟩, _, rfl, _, rfl, _, _, rfl, rfl, .inl ⟨by omega, by omega⟩, _, rfl, (by show 3 ≤ sizeLine; decide), fun L hL => ?_⟩
      have sL := same_new hL (.lst [.int (baseW W * baseW W * baseW W), .int (baseW W * baseW W), .int (baseW W)])
      refine ⟨_, rfl, r2, _, 1, _, rfl, rfl, Same.tup sL k3, rfl, _, _, rfl, rfl, L, _, _, _, rfl, rfl, SqL.of upd_same, base_at (b := baseW W) ⟨w1.1, w1.2⟩, _, _, rfl, rfl, .inl ⟨by show _ < z.worth; omega, by show z.worth < _; omega⟩, _, _, rfl, rfl, ?_⟩
      refine ⟨some (.int (0 + (i : Int))), some (.ref r2), ?_, hs.trans sL⟩
      rw [rs, if_pos on, List.sum_append]
      show _ = [_, _, _, _, _, some (V.int (_ + (recW W z + 0))), _, _, _, _]
      rw [Int.add_zero]
      rfl
    · refine iteF' (by rw [decide_eq_true (Classical.not_not.mp fun h => on (hon.mpr h))]; rfl) ?_
      refine ⟨some (.int (0 + (i : Int))), y7, ?_, hs⟩
      rw [rs, if_neg on, List.append_nil]
      rfl
  obtain ⟨y6, y7, rfl, hs1⟩ := hI
  rw [show (xm.length : Int).toNat = W.recs.length by omega]
  refine ⟨_, rfl, t, _, 1, _, rfl, rfl, Same.tup hs1 ht, rfl, tt, xt, rfl, .inr (Same.tup hs1 htt), _, rfl, by omega, by omega, for_range (lo := 0) (n := (xt.length : Int).toNat) (fun i σ H' => ∃ y8 y9, σ = [some (.ref wd), some (.ref t), some (.int (sumW W)), some (.int (sumF W)), some (.int (baseW W)), some (.int ((recL W c (fun z => some (recW W z)) W.recs.length).sum - (feeL W c i).sum)), y6, y7, y8, y9] ∧ Same H H') ⟨none, none, by rw [show (feeL W c 0).sum = 0 from rfl, Int.sub_zero], hs1⟩ (fun i σ H3 hi hI => ?_) (fun σ H3 hI => ?_)⟩
  · obtain ⟨y8, y9, rfl, hs⟩ := hI
    have hi' : i < W.pass.length := by omega
    obtain ⟨z, hz⟩ : ∃ z, W.pass[i]? = some z := ⟨_, List.getElem?_eq_getElem hi'⟩
    obtain ⟨e, he⟩ : ∃ e, c.taken[i]? = some e := ⟨_, List.getElem?_eq_getElem (by omega)⟩
    obtain ⟨y, hy, dy⟩ := dpAll_get2 hxt he
    have ra := feeAt_some hz he
    have rs := feeL_succ W c i
    rw [ra] at rs
    refine ⟨_, rfl, t, _, 1, _, rfl, rfl, Same.tup hs ht, rfl, _, rfl, tt, xt, (i : Int), y, rfl, by rw [Int.zero_add], Same.tup hs htt, atI_nat hy, rfl, _, rfl, ?_⟩
    have hon : onT e = true ↔ y ≠ V.non := by
      cases e with
      | non => cases dy; exact ⟨fun h => Bool.noConfusion h, fun h => absurd rfl h⟩
      | opn => cases dy; exact ⟨fun _ h => V.noConfusion h, fun _ => rfl⟩
      | ant a => cases dy; exact ⟨fun _ h => V.noConfusion h, fun _ => rfl⟩
    by_cases on : onT e = true
    · refine iteT' (by rw [decide_eq_false (hon.mp on)]; rfl) ?_
      obtain ⟨x, hx, dx⟩ := dpAll_get2 (dpAll_same hs d2) hz
      obtain ⟨r0, r1, r2, rfl, k1, k2, k3⟩ := pas_open dx
      refine ⟨_, rfl, _, rfl, wd, _, rfl, get_p (hs _ _ g), _, rfl, we, xd, (i : Int), _, rfl, by rw [Int.zero_add], SqL.of (hs _ _ d1), atI_nat hx, r0, _, 4, _, rfl, rfl, k1, rfl, r2, _, 2, _, rfl, rfl, k3, rfl, _, _, rfl, rfl, some (.int (0 + (i : Int))), y9, ?_, hs⟩
      rw [rs, if_pos on, List.sum_append]
      show _ = [_, _, _, _, _, some (V.int (_ - (_ + (z.fee + 0)))), _, _, _, _]
      rw [Int.add_zero, ← Int.sub_sub]
      rfl
    · refine iteF' (by rw [decide_eq_true (Classical.not_not.mp fun h => on (hon.mpr h))]; rfl) ?_
      refine ⟨some (.int (0 + (i : Int))), y9, ?_, hs⟩
      rw [rs, if_neg on, List.append_nil]
      rfl
  obtain ⟨y8, y9, rfl, hs2⟩ := hI
  rw [show (xt.length : Int).toNat = W.pass.length by omega]
  exact ⟨_, rfl, q _ hs2⟩
end
end DP
namespace DP
open PySem PySem.Spec PyProof.Rows L2
def selC (c : CaseD) (k : Nat) : List PyData := if k = 0 then c.made.map entM else c.taken.map entT
def cntP (ds es : List PyData) : Int := ((ds.zip es).map fun q => diffP q.1 q.2).sum
theorem chg_two {W : WorldD} {c d : CaseD} (h1 : c.made.length = d.made.length) : chgW c d = cntP (selC c 0) (selC d 0) + cntP (selC c 1) (selC d 1) := by
  unfold chgW entsPy cntP selC
  rw [if_pos rfl, if_pos rfl, if_neg (by decide), if_neg (by decide), List.zip_append (by rw [List.length_map, List.length_map, h1]), List.map_append, List.sum_append]
theorem cnt_succ {ds es : List PyData} {j : Nat} {a b : PyData} (h1 : ds[j]? = some a) (h2 : es[j]? = some b) : cntP (ds.take (j + 1)) (es.take (j + 1)) = cntP (ds.take j) (es.take j) + diffP a b := by
  have l1 := (List.getElem?_eq_some_iff.mp h1).1
  have l2 := (List.getElem?_eq_some_iff.mp h2).1
  unfold cntP
  rw [List.take_add_one, List.take_add_one, h1, h2, List.zip_append (by rw [List.length_take, List.length_take]; omega), List.map_append, List.sum_append]
  show _ + (diffP a b + 0) = _
  rw [Int.add_zero]
end DP
namespace DP
open PySem PySem.Spec PyProof.Rows L2
theorem shp_entM (e : EntM) : SeqAt.shaped (entM e) = true := by cases e <;> first | rfl | decide +kernel
theorem shp_entT (e : EntT) : SeqAt.shaped (entT e) = true := by cases e <;> first | rfl | decide +kernel
theorem fac_bound (W : WorldD) (wok : WorldOk W) : 1 ≤ factW W ∧ factW W ≤ 21 := by
  have := wok.nRecs
  have := wok.nPass
  unfold factW
  omega
def worthM (W : WorldD) (z : RecD) (a e : EntM) : Int := (if onM e = true then factW W * recW W z else 0) - diffP (entM a) (entM e)
def worthT (W : WorldD) (z : PasD) (a e : EntT) : Int := (if onT e = true then -factW W * z.fee else 0) - diffP (entT a) (entT e)
theorem onM_non {K : PySem.W.Frag} {H : Hp} {e : EntM} {y : V} (dy : Dp K H y (entM e)) : onM e = true ↔ y ≠ V.non := by
  cases e with
  | non => cases dy; exact ⟨fun h => Bool.noConfusion h, fun h => absurd rfl h⟩
  | opn => cases dy; exact ⟨fun _ h => V.noConfusion h, fun _ => rfl⟩
  | at_ a b => obtain ⟨u, xs, rfl, _⟩ := dp_tup dy; exact ⟨fun _ h => V.noConfusion h, fun _ => rfl⟩
theorem onT_non {K : PySem.W.Frag} {H : Hp} {e : EntT} {y : V} (dy : Dp K H y (entT e)) : onT e = true ↔ y ≠ V.non := by
  cases e with
  | non => cases dy; exact ⟨fun h => Bool.noConfusion h, fun h => absurd rfl h⟩
  | opn => cases dy; exact ⟨fun _ h => V.noConfusion h, fun _ => rfl⟩
  | ant a => cases dy; exact ⟨fun _ h => V.noConfusion h, fun _ => rfl⟩
/-- the plan of one recording alone -/
def oneC (W : WorldD) (r : Nat) (e : EntM) : CaseD := ⟨(List.replicate W.recs.length EntM.non).set r e, List.replicate W.pass.length EntT.non⟩
theorem one_w {W : WorldD} {r : Nat} {e : EntM} {z : RecD} (hz : W.recs[r]? = some z) : weightW W (oneC W r e) = if onM e = true then recW W z else 0 := by
  have hr := (List.getElem?_eq_some_iff.mp hz).1
  have h1 : ∀ i, i ≤ W.recs.length → (recL W (oneC W r e) (fun z => some (recW W z)) i).sum = if r < i then (if onM e = true then recW W z else 0) else 0 := fun i => by
    induction i with
    | zero => intro _; rfl
    | succ i ih =>
      intro hi
      obtain ⟨y, hy⟩ : ∃ y, W.recs[i]? = some y := ⟨_, List.getElem?_eq_getElem (by omega)⟩
      rw [recL_succ, List.sum_append, ih (by omega)]
      by_cases h : r = i
      · subst h
        have he : (oneC W r e).made[r]? = some e := by unfold oneC; rw [List.getElem?_set_self (by rw [List.length_replicate]; omega)]
        rw [recAt_some hy he, if_neg (show ¬ r < r by omega), if_pos (show r < r + 1 by omega)]
        rw [hy] at hz
        cases hz
        by_cases o : onM e = true
        · rw [if_pos o, if_pos o]
          show 0 + (recW W z + 0) = _
          omega
        · rw [if_neg o, if_neg o]
          rfl
      · have he : (oneC W r e).made[i]? = some .non := by unfold oneC; rw [List.getElem?_set_ne h, List.getElem?_replicate, if_pos (by omega)]
        rw [recAt_some hy he, show onM .non = false from rfl, if_neg Bool.false_ne_true]
        show _ + 0 = _
        by_cases l : r < i
        · rw [if_pos l, if_pos (show r < i + 1 by omega), Int.add_zero]
        · rw [if_neg l, if_neg (show ¬ r < i + 1 by omega), Int.add_zero]
  have h2 : ∀ i, i ≤ W.pass.length → (feeL W (oneC W r e) i).sum = 0 := fun i => by
    induction i with
    | zero => intro _; rfl
    | succ i ih =>
      intro hi
      obtain ⟨y, hy⟩ : ∃ y, W.pass[i]? = some y := ⟨_, List.getElem?_eq_getElem (by omega)⟩
      have he : (oneC W r e).taken[i]? = some .non := by unfold oneC; rw [List.getElem?_replicate, if_pos (by omega)]
      rw [feeL_succ, List.sum_append, ih (by omega), feeAt_some hy he, show onT .non = false from rfl, if_neg Bool.false_ne_true]
      rfl
  unfold weightW feesW
  rw [h1 _ (Nat.le_refl _), h2 _ (Nat.le_refl _), if_pos hr, Int.sub_zero]
/-- what the first recordings are worth -/
def totM (W : WorldD) (c d : CaseD) (i : Nat) : Int := factW W * (recL W d (fun z => some (recW W z)) i).sum - cntP ((selC c 0).take i) ((selC d 0).take i)
theorem totM_succ {W : WorldD} {c d : CaseD} {i : Nat} {z : RecD} {a e : EntM} (hz : W.recs[i]? = some z) (ha : c.made[i]? = some a) (he : d.made[i]? = some e) : totM W c d (i + 1) = totM W c d i + worthM W z a e := by
  have h1 : (selC c 0)[i]? = some (entM a) := by unfold selC; rw [if_pos rfl, List.getElem?_map, ha]; rfl
  have h2 : (selC d 0)[i]? = some (entM e) := by unfold selC; rw [if_pos rfl, List.getElem?_map, he]; rfl
  unfold totM worthM
  rw [cnt_succ h1 h2, recL_succ, List.sum_append, recAt_some hz he]
  by_cases o : onM e = true
  · rw [if_pos o, if_pos o]
    show factW W * (_ + (recW W z + 0)) - _ = _
    rw [Int.add_zero, Int.mul_add]
    omega
  · rw [if_neg o, if_neg o]
    show factW W * (_ + 0) - _ = _
    rw [Int.add_zero]
    omega
/-- and all of them with the first passes -/
def totT (W : WorldD) (c d : CaseD) (i : Nat) : Int := totM W c d W.recs.length - factW W * (feeL W d i).sum - cntP ((selC c 1).take i) ((selC d 1).take i)
theorem totT_succ {W : WorldD} {c d : CaseD} {i : Nat} {z : PasD} {a e : EntT} (hz : W.pass[i]? = some z) (ha : c.taken[i]? = some a) (he : d.taken[i]? = some e) : totT W c d (i + 1) = totT W c d i + worthT W z a e := by
  have h1 : (selC c 1)[i]? = some (entT a) := by unfold selC; rw [if_neg (by decide), List.getElem?_map, ha]; rfl
  have h2 : (selC d 1)[i]? = some (entT e) := by unfold selC; rw [if_neg (by decide), List.getElem?_map, he]; rfl
  unfold totT worthT
  rw [cnt_succ h1 h2, feeL_succ, List.sum_append, feeAt_some hz he]
  by_cases o : onT e = true
  · rw [if_pos o, if_pos o]
    show _ - factW W * (_ + (z.fee + 0)) - _ = _
    rw [Int.add_zero, Int.mul_add, Int.neg_mul]
    omega
  · rw [if_neg o, if_neg o]
    show _ - factW W * (_ + 0) - _ = _
    rw [Int.add_zero]
    omega
theorem totT_zero (W : WorldD) (c d : CaseD) : totT W c d 0 = totM W c d W.recs.length := by
  unfold totT
  show _ - factW W * 0 - 0 = _
  rw [Int.mul_zero]
  omega
theorem tot_end {W : WorldD} {c d : CaseD} (gc : CaseG W false c) (gd : CaseG W false d) : totT W c d W.pass.length = goalW W c d := by
  have c1 := gc.nM; have c2 := gc.nT; have d1 := gd.nM; have d2 := gd.nT
  have s0 : (selC c 0).length = W.recs.length := by unfold selC; rw [if_pos rfl, List.length_map]; exact c1
  have s1 : (selC d 0).length = W.recs.length := by unfold selC; rw [if_pos rfl, List.length_map]; exact d1
  have s2 : (selC c 1).length = W.pass.length := by unfold selC; rw [if_neg (by decide), List.length_map]; exact c2
  have s3 : (selC d 1).length = W.pass.length := by unfold selC; rw [if_neg (by decide), List.length_map]; exact d2
  unfold totT totM goalW weightW feesW
  rw [chg_two (W := W) (by omega), ← s0, List.take_length, s0, ← s1, List.take_length, ← s2, List.take_length, s2, ← s3, List.take_length, s3, Int.mul_sub]
  omega
theorem dpAll_set {K : PySem.W.Frag} {H : Hp} : ∀ {xs : List V} {ds : List PyData} (i : Nat) {v : V} {d : PyData}, DpAll K H xs ds → Dp K H v d → DpAll K H (xs.set i v) (ds.set i d)
  | _, _, _, _, _, .nil, _ => .nil
  | _, _, 0, _, _, .cons _ t, h => .cons h t
  | _, _, i + 1, _, _, .cons a t, h => .cons a (dpAll_set i t h)
theorem dpAll_nons {K : PySem.W.Frag} {H : Hp} : ∀ n : Nat, DpAll K H (List.replicate n V.non) (List.replicate n PyData.none)
  | 0 => .nil
  | n + 1 => .cons .non (dpAll_nons n)
theorem rep_non {K : PySem.W.Frag} {H : Hp} {p : Addr} {n : Nat} {Q : VK} (hp : H p = some (.tup [.non])) (hn : n ≤ 1000) (q : ∀ r H', Same H H' → SqT K H' r (List.replicate n V.non) → Q (.ref r) H') : rRepN K (.ref p) (.int (n : Int)) H Q := by
  refine ⟨p, _, _, rfl, rfl, SqT.of hp, List.cons_ne_nil _ _, by omega, by omega, by show 1 ≤ 1000; decide, fun e => ?_, fun e r hr => ?_⟩
  · have e1 : n = 1 := by omega
    subst e1
    exact q _ _ (Same.refl _) (SqT.of hp)
  · refine q _ _ (same_new hr _) ?_
    rw [show ((n : Nat) : Int).toNat = n from Int.toNat_natCast n, List.flatten_replicate_singleton]
    exact SqT.of upd_same
end DP
namespace DP
open PySem PySem.Spec PyProof.Rows L2
abbrev s_recording_worth : Stmt := topS 67
theorem sc_recording_worth : FnScope ["world", "goal", "number", "entry", "made", "_", "gain"] ["world", "goal", "number", "entry"] (defScope s_recording_worth) := ⟨rfl, rfl, rfl, by decide +kernel, rfl, by decide +kernel, by decide +kernel⟩
abbrev s_pass_worth : Stmt := topS 68
theorem sc_pass_worth : FnScope ["world", "goal", "number", "entry", "_", "taken", "gain"] ["world", "goal", "number", "entry"] (defScope s_pass_worth) := ⟨rfl, rfl, rfl, by decide +kernel, rfl, by decide +kernel, by decide +kernel⟩
abbrev s_recording_entries : Stmt := topS 69
theorem sc_recording_entries : FnScope ["world", "case", "number", "made", "_"] ["world", "case", "number"] (defScope s_recording_entries) := ⟨rfl, rfl, rfl, by decide +kernel, rfl, by decide +kernel, by decide +kernel⟩
abbrev s_pass_entries : Stmt := topS 70
theorem sc_pass_entries : FnScope ["world", "case", "number", "_", "taken"] ["world", "case", "number"] (defScope s_pass_entries) := ⟨rfl, rfl, rfl, by decide +kernel, rfl, by decide +kernel, by decide +kernel⟩
section
variable {P : Program} {w : World} {K : PySem.W.Frag} {mg : Str → Option Value} {base : Heap} {CL CS CT CR CP CW aS aR fS fT fR fP CO : Addr}
def spWM (K : PySem.W.Frag) (CS CT CR CP CW CO : Addr) : Sp := fun vs H Q _ => ∃ (ac x : Addr) (i : Nat) (v : V) (W : WorldD) (c : CaseD) (ms : List Int) (z : RecD) (a e : EntM), vs = [.ref ac, .ref x, .int (i : Int), v] ∧ WorldOk W ∧ WorldAt K CS CT CR CP CW H ac W ∧ GoalAt K CO H x W c ms ∧ W.recs[i]? = some z ∧ c.made[i]? = some a ∧ Dp K H v (entM e) ∧ ∀ H', Same H H' → Q (.int (worthM W z a e)) H'
theorem d_rec_worth (TG : TxtG K mg CO) (D_recording_weight : DefOk P w K mg base CX0 2 "recording_weight" ["world", "r"] (spRecW K CS CT CR CP CW)) (D_changes_of : DefOk P w K mg base CX0 1 "changes_of" ["old", "entry"] (spDiff K)) (A : At K mg "recording_worth" s_recording_worth ["world", "goal", "number", "entry"]) : DefOk P w K mg base CX0 3 "recording_worth" ["world", "goal", "number", "entry"] (spWM K CS CT CR CP CW CO) := by
  have T := TG
  refine A.ok sc_recording_worth (fun vs H Q E h => ?_) (fun f cdv A outer s H vs Q E hr h => ?_)
  · obtain ⟨ac, x, i, v, W, c, ms, z, a, e, rfl, _⟩ := h
    rfl
  obtain ⟨ac, x, i, v, W, c, ms, z, a, e, rfl, wok, hW, hG, hz, ha, hv, q⟩ := h
  obtain ⟨dx, vp, tl, hx, hp, htl⟩ := hG.ex
  obtain ⟨t, tm, tt, xm, xt, rfl, ht, hm, htt, hxm, hxt, lm, lt⟩ := case_two hp
  obtain ⟨y, hy, dy⟩ := dpAll_get2 hxm ha
  have fb := fac_bound W wok
  refine ⟨_, pss_cons (ps_asg (pe_fld (pv 1) rfl) (pg_tup (by rfl) (pgs_cons (pg_name (i := 4) sc_recording_worth.nd rfl (Or.inl rfl)) (pgs_cons (pg_name (i := 5) sc_recording_worth.nd rfl (Or.inl rfl)) (pgs_nil)))))
  (pss_cons (ps_set (i := 6) sc_recording_worth.nd rfl (Or.inl rfl) (pe_ifExp (pt_cmpR op_isN (pv 3) pe_non (nomark _)) pe_int (pe_op op_mul (pe_fld (pv 1) rfl) (pe_f D_recording_weight (hr.mono (by omega)) pass0 (pa_cons (pv 0) (pa_cons (pv 2) pa_nil))))))
  (pss_one (ps_ret (pe_op op_sub (pv 6) (pe_f D_changes_of (hr.mono (by omega)) pass0 (pa_cons (pe_ix ix_tup (pv 4) (pv 2) (fun _ _ => rfl)) (pa_cons (pv 3) pa_nil)))))))
    , ?_⟩
  refine ⟨_, rfl, x, CO, dx, _, _, rfl, hx, TG.c_Goal.cl, TG.n_plan, lk_Go_plan, t, _, rfl, ht, rfl, _, _, rfl, _, _, rfl, rfl, _, rfl, rfl, _, rfl, ?_⟩
  unfold worthM at q
  by_cases o : onM e = true
  · rw [if_pos o] at q
    refine iteF' (by rw [decide_eq_false ((onM_non hv).mp o)]) ?_
    refine ⟨_, rfl, x, CO, dx, _, _, rfl, hx, TG.c_Goal.cl, TG.n_factor, lk_Go_factor, _, rfl, _, rfl, ac, W, i, z, rfl, wok, hW, hz, fun H1 s1 => ?_⟩
    refine ⟨_, _, rfl, rfl, .inl ⟨by omega, by omega⟩, _, rfl, _, rfl, _, rfl, tm, xm, (i : Int), y, rfl, rfl, Same.tup s1 hm, atI_nat hy, _, rfl, y, v, entM a, entM e, rfl, dp_same s1 dy, dp_same s1 hv, shp_entM a, shp_entM e, _, _, rfl, rfl, q _ s1⟩
  · rw [if_neg o] at q
    refine iteT' (by rw [decide_eq_true (Classical.not_not.mp fun h => o ((onM_non hv).mpr h))]) ?_
    exact ⟨_, rfl, _, rfl, _, rfl, tm, xm, (i : Int), y, rfl, rfl, hm, atI_nat hy, _, rfl, y, v, entM a, entM e, rfl, dy, hv, shp_entM a, shp_entM e, _, _, rfl, rfl, q _ (Same.refl _)⟩
def spWT (K : PySem.W.Frag) (CS CT CR CP CW CO : Addr) : Sp := fun vs H Q _ => ∃ (ac x : Addr) (i : Nat) (v : V) (W : WorldD) (c : CaseD) (ms : List Int) (z : PasD) (a e : EntT), vs = [.ref ac, .ref x, .int (i : Int), v] ∧ WorldOk W ∧ WorldAt K CS CT CR CP CW H ac W ∧ GoalAt K CO H x W c ms ∧ W.pass[i]? = some z ∧ c.taken[i]? = some a ∧ Dp K H v (entT e) ∧ Q (.int (worthT W z a e)) H
theorem d_pas_worth (TW : TxtW K mg CL CS CT CR CP CW aS aR fS fT fR fP) (TG : TxtG K mg CO) (D_changes_of : DefOk P w K mg base CX0 1 "changes_of" ["old", "entry"] (spDiff K)) (A : At K mg "pass_worth" s_pass_worth ["world", "goal", "number", "entry"]) : DefOk P w K mg base CX0 2 "pass_worth" ["world", "goal", "number", "entry"] (spWT K CS CT CR CP CW CO) := by
  have T := TW
  refine A.ok sc_pass_worth (fun vs H Q E h => ?_) (fun f cdv A outer s H vs Q E hr h => ?_)
  · obtain ⟨ac, x, i, v, W, c, ms, z, a, e, rfl, _⟩ := h
    rfl
  obtain ⟨ac, x, i, v, W, c, ms, z, a, e, rfl, wok, hW, hG, hz, ha, hv, q⟩ := h
  obtain ⟨dg, vp, tl, hx, hp, htl⟩ := hG.ex
  obtain ⟨t, tm, tt, xm, xt, rfl, ht, hm, htt, hxm, hxt, lm, lt⟩ := case_two hp
  obtain ⟨y, hy, dy⟩ := dpAll_get2 hxt ha
  obtain ⟨dx, t0, t1, t2, t3, x0, x1, x2, x3, gw, _, _, _, _, p2, q2, p3, q3⟩ := hW.ex
  obtain ⟨pb, pd, ts, hpb, c1, c2⟩ := rw_pas q3 hz
  have fb := fac_bound W wok
  refine ⟨_, pss_cons (ps_asg (pe_fld (pv 1) rfl) (pg_tup (by rfl) (pgs_cons (pg_name (i := 4) sc_pass_worth.nd rfl (Or.inl rfl)) (pgs_cons (pg_name (i := 5) sc_pass_worth.nd rfl (Or.inl rfl)) (pgs_nil)))))
  (pss_cons (ps_set (i := 6) sc_pass_worth.nd rfl (Or.inl rfl) (pe_ifExp (pt_cmpR op_isN (pv 3) pe_non (nomark _)) pe_int (pe_op op_mul (pe_un un_neg (pe_fld (pv 1) rfl)) (pe_fld (pe_ix ix_tup (pe_fld (pv 0) rfl) (pv 2) (fun _ _ => rfl)) rfl))))
  (pss_one (ps_ret (pe_op op_sub (pv 6) (pe_f D_changes_of (hr.mono (by omega)) pass0 (pa_cons (pe_ix ix_tup (pv 5) (pv 2) (fun _ _ => rfl)) (pa_cons (pv 3) pa_nil)))))))
    , ?_⟩
  refine ⟨_, rfl, x, CO, dg, _, _, rfl, hx, TG.c_Goal.cl, TG.n_plan, lk_Go_plan, t, _, rfl, ht, rfl, _, _, rfl, _, _, rfl, rfl, _, rfl, rfl, _, rfl, ?_⟩
  unfold worthT at q
  by_cases o : onT e = true
  · rw [if_pos o] at q
    refine iteF' (by rw [decide_eq_false ((onT_non hv).mp o)]) ?_
    refine ⟨_, rfl, x, CO, dg, _, _, rfl, hx, TG.c_Goal.cl, TG.n_factor, lk_Go_factor, _, rfl, _, rfl, ac, CW, dx, _, _, rfl, gw, T.c_World.cl, T.n_World_passes, lk_World_passes, _, rfl, t3, x3, (i : Int), _, rfl, rfl, p3, atI_nat hpb, pb, CP, pd, _, _, rfl, c1, T.c_Pass.cl, T.n_Pass_fee, lk_Pass_fee, ?_⟩
    refine ⟨_, _, rfl, rfl, .inl ⟨by omega, by omega⟩, _, rfl, _, rfl, _, rfl, tt, xt, (i : Int), y, rfl, rfl, htt, atI_nat hy, _, rfl, y, v, entT a, entT e, rfl, dy, hv, shp_entT a, shp_entT e, _, _, rfl, rfl, q⟩
  · rw [if_neg o] at q
    refine iteT' (by rw [decide_eq_true (Classical.not_not.mp fun h => o ((onT_non hv).mpr h))]) ?_
    exact ⟨_, rfl, _, rfl, _, rfl, tt, xt, (i : Int), y, rfl, rfl, htt, atI_nat hy, _, rfl, y, v, entT a, entT e, rfl, dy, hv, shp_entT a, shp_entT e, _, _, rfl, rfl, q⟩
def entsR (W : WorldD) (z : RecD) : EntM → List EntX
  | .opn => choR W z
  | e => [mX e]
def entsP (W : WorldD) (z : PasD) : EntT → List EntX
  | .opn => choP W z
  | e => [tX e]
theorem opn_eqM (e : EntM) : PyData.eqv (entM e) (.str "open") = (match e with | .opn => true | _ => false) := by cases e <;> rfl
theorem opn_eqT (e : EntT) : PyData.eqv (entT e) (.str "open") = (match e with | .opn => true | _ => false) := by cases e <;> rfl
def spRE (K : PySem.W.Frag) (CS CT CR CP CW : Addr) : Sp := fun vs H Q _ => ∃ (ac : Addr) (v : V) (i : Nat) (W : WorldD) (c : CaseD) (z : RecD) (e : EntM), vs = [.ref ac, v, .int (i : Int)] ∧ WorldOk W ∧ WorldAt K CS CT CR CP CW H ac W ∧ W.recs[i]? = some z ∧ c.made[i]? = some e ∧ Dp K H v (casePy c) ∧ ∀ r H', Same H H' → Dp K H' r (choPy (entsR W z e)) → Q r H'
theorem d_rec_ents (TO : TxtO mg) (D_recording_choices : DefOk P w K mg base CX0 3 "recording_choices" ["world", "r"] (spRC K CS CT CR CP CW)) (A : At K mg "recording_entries" s_recording_entries ["world", "case", "number"]) : DefOk P w K mg base CX0 4 "recording_entries" ["world", "case", "number"] (spRE K CS CT CR CP CW) := by
  have T := TO
  refine A.ok sc_recording_entries (fun vs H Q E h => ?_) (fun f cdv A outer s H vs Q E hr h => ?_)
  · obtain ⟨ac, v, i, W, c, z, e, rfl, _⟩ := h
    rfl
  obtain ⟨ac, v, i, W, c, z, e, rfl, wok, hW, hz, he, hv, q⟩ := h
  obtain ⟨t, tm, tt, xm, xt, rfl, ht, hm, htt, hxm, hxt, lm, lt⟩ := case_two hv
  obtain ⟨y, hy, dy⟩ := dpAll_get2 hxm he
  refine ⟨_, pss_cons (ps_asg (pv 1) (pg_tup (by rfl) (pgs_cons (pg_name (i := 3) sc_recording_entries.nd rfl (Or.inl rfl)) (pgs_cons (pg_name (i := 4) sc_recording_entries.nd rfl (Or.inl rfl)) (pgs_nil)))))
  (pss_cons (ps_if (pt_cmpR (op_eqD hr.units) (pe_ix ix_tup (pv 3) (pv 2) (fun _ _ => rfl)) (pe_gs T.g_OPEN) (nomark _))
      (pss_one (ps_ret (pe_f D_recording_choices (hr.mono (by omega)) pass0 (pa_cons (pv 0) (pa_cons (pv 2) pa_nil)))))
      (pss_nil))
  (pss_one (ps_ret (pe_tup (pa_cons (pe_ix ix_tup (pv 3) (pv 2) (fun _ _ => rfl)) pa_nil)))))
    , ?_⟩
  refine ⟨_, rfl, t, _, rfl, ht, rfl, _, _, rfl, _, _, rfl, rfl, _, rfl, _, rfl, tm, xm, (i : Int), y, rfl, rfl, hm, atI_nat hy, entM e, .str "open", dy, .str _, shp_entM e, by decide +kernel, _, rfl, ?_⟩
  rw [opn_eqM]
  cases e with
  | opn => exact iteT' rfl ⟨_, rfl, _, rfl, ac, W, i, z, rfl, wok, hW, hz, fun r H' s' hr' => q r H' s' hr'⟩
  | non =>
    refine iteF' rfl ⟨_, rfl, _, rfl, tm, xm, (i : Int), y, rfl, rfl, hm, atI_nat hy, sz1_, fun p hp => ?_⟩
    have sp := same_new hp (.tup [y])
    exact q _ _ sp (.tup (SqT.of upd_same) (.cons (dp_same sp dy) .nil))
  | at_ a b =>
    refine iteF' rfl ⟨_, rfl, _, rfl, tm, xm, (i : Int), y, rfl, rfl, hm, atI_nat hy, sz1_, fun p hp => ?_⟩
    have sp := same_new hp (.tup [y])
    exact q _ _ sp (.tup (SqT.of upd_same) (.cons (dp_same sp dy) .nil))
def spPE (K : PySem.W.Frag) (CS CT CR CP CW : Addr) : Sp := fun vs H Q _ => ∃ (ac : Addr) (v : V) (i : Nat) (W : WorldD) (c : CaseD) (z : PasD) (e : EntT), vs = [.ref ac, v, .int (i : Int)] ∧ WorldOk W ∧ WorldAt K CS CT CR CP CW H ac W ∧ W.pass[i]? = some z ∧ c.taken[i]? = some e ∧ Dp K H v (casePy c) ∧ ∀ r H', Same H H' → Dp K H' r (choPy (entsP W z e)) → Q r H'
theorem d_pas_ents (TO : TxtO mg) (D_pass_choices : DefOk P w K mg base CX0 1 "pass_choices" ["world", "p"] (spPC K CS CT CR CP CW)) (A : At K mg "pass_entries" s_pass_entries ["world", "case", "number"]) : DefOk P w K mg base CX0 2 "pass_entries" ["world", "case", "number"] (spPE K CS CT CR CP CW) := by
  have T := TO
  refine A.ok sc_pass_entries (fun vs H Q E h => ?_) (fun f cdv A outer s H vs Q E hr h => ?_)
  · obtain ⟨ac, v, i, W, c, z, e, rfl, _⟩ := h
    rfl
  obtain ⟨ac, v, i, W, c, z, e, rfl, wok, hW, hz, he, hv, q⟩ := h
  obtain ⟨t, tm, tt, xm, xt, rfl, ht, hm, htt, hxm, hxt, lm, lt⟩ := case_two hv
  obtain ⟨y, hy, dy⟩ := dpAll_get2 hxt he
  refine ⟨_, pss_cons (ps_asg (pv 1) (pg_tup (by rfl) (pgs_cons (pg_name (i := 3) sc_pass_entries.nd rfl (Or.inl rfl)) (pgs_cons (pg_name (i := 4) sc_pass_entries.nd rfl (Or.inl rfl)) (pgs_nil)))))
  (pss_cons (ps_if (pt_cmpR (op_eqD hr.units) (pe_ix ix_tup (pv 4) (pv 2) (fun _ _ => rfl)) (pe_gs T.g_OPEN) (nomark _))
      (pss_one (ps_ret (pe_f D_pass_choices (hr.mono (by omega)) pass0 (pa_cons (pv 0) (pa_cons (pv 2) pa_nil)))))
      (pss_nil))
  (pss_one (ps_ret (pe_tup (pa_cons (pe_ix ix_tup (pv 4) (pv 2) (fun _ _ => rfl)) pa_nil)))))
    , ?_⟩
  refine ⟨_, rfl, t, _, rfl, ht, rfl, _, _, rfl, _, _, rfl, rfl, _, rfl, _, rfl, tt, xt, (i : Int), y, rfl, rfl, htt, atI_nat hy, entT e, .str "open", dy, .str _, shp_entT e, by decide +kernel, _, rfl, ?_⟩
  rw [opn_eqT]
  cases e with
  | opn => exact iteT' rfl ⟨_, rfl, _, rfl, ac, W, i, z, rfl, wok, hW, hz, fun r H' s' hr' => q r H' s' hr'⟩
  | non =>
    refine iteF' rfl ⟨_, rfl, _, rfl, tt, xt, (i : Int), y, rfl, rfl, htt, atI_nat hy, sz1_, fun p hp => ?_⟩
    have sp := same_new hp (.tup [y])
    exact q _ _ sp (.tup (SqT.of upd_same) (.cons (dp_same sp dy) .nil))
  | ant a =>
    refine iteF' rfl ⟨_, rfl, _, rfl, tt, xt, (i : Int), y, rfl, rfl, htt, atI_nat hy, sz1_, fun p hp => ?_⟩
    have sp := same_new hp (.tup [y])
    exact q _ _ sp (.tup (SqT.of upd_same) (.cons (dp_same sp dy) .nil))
end
end DP
namespace DP
open PySem PySem.Spec PyProof.Rows L2
abbrev s_law : Stmt := topS 88
theorem sc_law : FnScope ["script", "world", "actual", "old", "plan", "case", "goal", "factor", "total", "nothing", "r", "one", "due", "entries", "p"] ["script"] (defScope s_law) := ⟨rfl, rfl, rfl, by decide +kernel, rfl, by decide +kernel, by decide +kernel⟩
theorem fit_entX (n : Nat) (e : EntX) : Fit (n + 2) (entX e) := by
  cases e with
  | non => exact True.intro
  | opn => exact True.intro
  | ant a => exact True.intro
  | at_ s p => exact fit_tup (by show 2 ≤ 1000; decide) (fit_cons fit_int (fit_cons fit_int fit_nil))
theorem fit_cho {l : List EntX} (h : l.length ≤ 1000) (n : Nat) : Fit (n + 3) (choPy l) := fit_tup (by rw [List.length_map]; exact h) (fit_map fun e _ => fit_entX n e)
theorem entsR_len {W : WorldD} (wok : WorldOk W) {z : RecD} (hz : z ∈ W.recs) (e : EntM) : (entsR W z e).length ≤ 1000 := by
  have h := optsW_len wok (wok.recs z hz)
  cases e with
  | opn => show (choR W z).length ≤ 1000; unfold choR; rw [List.length_cons, List.length_map]; omega
  | non => show 1 ≤ 1000; decide
  | at_ s p => show 1 ≤ 1000; decide
theorem antOf_le {W : WorldD} (wok : WorldOk W) (z : PasD) : (antOf W z).toNat ≤ 3 := by
  unfold antOf
  split
  · rename_i s hs
    have := (wok.stas s (List.mem_of_getElem? hs)).antennas
    omega
  · decide
theorem entsP_len {W : WorldD} (wok : WorldOk W) (z : PasD) (e : EntT) : (entsP W z e).length ≤ 1000 := by
  have h := antOf_le wok z
  cases e with
  | opn => show (choP W z).length ≤ 1000; unfold choP; rw [List.length_cons, List.length_map, List.length_range]; omega
  | non => show 1 ≤ 1000; decide
  | ant a => show 1 ≤ 1000; decide
theorem one_g {W : WorldD} {i : Nat} {e : EntM} (h : MOk W false e) : CaseG W false (oneC W i e) := by
  refine ⟨by unfold oneC; rw [List.length_set, List.length_replicate], by unfold oneC; rw [List.length_replicate], fun y hy => ?_, fun y hy => ?_⟩
  · rcases List.mem_or_eq_of_mem_set hy with m | m
    · rw [(List.mem_replicate.mp m).2]
      exact True.intro
    · rw [m]
      exact h
  · rw [(List.mem_replicate.mp hy).2]
    exact True.intro
theorem due_m {W : WorldD} {i : Nat} {z : RecD} {a e : EntM} (hz : W.recs[i]? = some z) : factW W * weightW W (oneC W i e) - (if (!PyData.eqv (entM e) (entM a)) = true then 1 else 0) = worthM W z a e := by
  rw [one_w hz]
  unfold worthM diffP
  have h1 : (if (!PyData.eqv (entM e) (entM a)) = true then (1 : Int) else 0) = if PyData.eqv (entM e) (entM a) = true then 0 else 1 := by
    cases PyData.eqv (entM e) (entM a) <;> rfl
  rw [h1]
  by_cases o : onM e = true
  · rw [if_pos o, if_pos o]
  · rw [if_neg o, if_neg o, Int.mul_zero]
section
variable {P : Program} {w : World} {K : PySem.W.Frag} {mg : Str → Option Value} {base : Heap} {CL CS CT CR CP CW aS aR fS fT fR fP CO : Addr}
def spLaw (K : PySem.W.Frag) : Sp := fun vs H Q _ => ∃ (a : Addr) (ns : List Int), vs = [.ref a] ∧ SqL K H a (ns.map V.int) ∧ ∀ H', Q (.bl true) H'
set_option maxHeartbeats 16000000 in
theorem d_law (T : TxtW K mg CL CS CT CR CP CW aS aR fS fT fR fP) (TG : TxtG K mg CO) (D_law_cell : DefOk P w K mg base CX0 1 "_law_cell" ["script", "k"] (DP.spCell K)) (D_law_world : DefOk P w K mg base CX0 4 "_law_world" ["script"] (spWorld K)) (D_law_text : DefOk P w K mg base CX0 2 "_law_text" ["world"] (spLawText K))
    (D_law_options : DefOk P w K mg base CX0 1 "_law_options" ["world", "number"] (spLawOptions K)) (D_law_case : DefOk P w K mg base CX0 3 "_law_case" ["script", "first", "world", "open_too"] (spCase K)) (D_law_same : DefOk P w K mg base CX0 9 "_law_same" ["actual", "expected"] (spSame K 8)) (D_law_weight : DefOk P w K mg base CX0 1 "_law_weight" ["world", "plan"] (spLWgt K))
    (D_recording_worth : DefOk P w K mg base CX0 3 "recording_worth" ["world", "goal", "number", "entry"] (spWM K CS CT CR CP CW CO)) (D_pass_worth : DefOk P w K mg base CX0 2 "pass_worth" ["world", "goal", "number", "entry"] (spWT K CS CT CR CP CW CO)) (D_recording_entries : DefOk P w K mg base CX0 4 "recording_entries" ["world", "case", "number"] (spRE K CS CT CR CP CW)) (D_pass_entries : DefOk P w K mg base CX0 2 "pass_entries" ["world", "case", "number"] (spPE K CS CT CR CP CW))
    (D_goal_weight : DefOk P w K mg base CX0 4 "goal_weight" ["world", "goal", "plan"] (spGoalW K CS CT CR CP CW CO))
    (DI_Goal : MDef P w K mg base CX0 5 CO "__init__" ["self", "world", "plan", "lost"] [] (spGoalI K CS CT CR CP CW CO)) (D_World_parse : SDef P w K mg base CX0 7 CW "parse" ["text"] (spParse K CS CT CR CP CW)) (A : At K mg "law" s_law ["script"]) : DefOk P w K mg base CX0 10 "law" ["script"] (spLaw K) := by
  have B := T.L.B
  refine A.ok sc_law (fun vs H Q E h => ?_) (fun f cdv A outer s H0 vs Q E hr h => ?_)
  · obtain ⟨a, ns, rfl, _⟩ := h
    rfl
  obtain ⟨a, ns, rfl, hS, q⟩ := h
  refine ⟨_, pss_cons (ps_set (i := 1) sc_law.nd rfl (Or.inl rfl) (pe_f D_law_world (hr.mono (by omega)) pass0 (pa_cons (pv 0) pa_nil)))
  (pss_cons (ps_set (i := 2) sc_law.nd rfl (Or.inl rfl) (pe_smeth D_World_parse T.rdW (hr.mono (by omega)) pass0 (pe_ga T.c_World.gC) (pa_cons (pe_f D_law_text (hr.mono (by omega)) pass0 (pa_cons (pv 1) pa_nil)) pa_nil)))
  (pss_cons (ps_set (i := 3) sc_law.nd rfl (Or.inl rfl) (pe_f D_law_case (hr.mono (by omega)) pass0 (pa_cons (pv 0) (pa_cons pe_int (pa_cons (pv 1) (pa_cons pe_bl pa_nil))))))
  (pss_cons (ps_set (i := 4) sc_law.nd rfl (Or.inl rfl) (pe_f D_law_case (hr.mono (by omega)) pass0 (pa_cons (pv 0) (pa_cons pe_int (pa_cons (pv 1) (pa_cons pe_bl pa_nil))))))
  (pss_cons (ps_set (i := 5) sc_law.nd rfl (Or.inl rfl) (pe_f D_law_case (hr.mono (by omega)) pass0 (pa_cons (pv 0) (pa_cons pe_int (pa_cons (pv 1) (pa_cons pe_bl pa_nil))))))
  (pss_cons (ps_set (i := 6) sc_law.nd rfl (Or.inl rfl) (pe_mk DI_Goal TG.c_Goal (hr.mono (by omega)) pass0 (pa_cons (pv 2) (pa_cons (pv 3) (pa_cons (pe_lst pa_nil) pa_nil)))))
  (pss_cons (ps_set (i := 7) sc_law.nd rfl (Or.inl rfl) (pe_op op_add (pe_op op_add pe_int (pe_callB (call_len_seq) (by rfl) B.len (by decide +kernel) (pa_cons (pe_ix ix_tup (pv 3) pe_int (fun _ _ => rfl)) pa_nil))) (pe_callB (call_len_seq) (by rfl) B.len (by decide +kernel) (pa_cons (pe_ix ix_tup (pv 3) pe_int (fun _ _ => rfl)) pa_nil))))
  (pss_cons (ps_set (i := 8) sc_law.nd rfl (Or.inl rfl) pe_int)
  (pss_cons (ps_set (i := 9) sc_law.nd rfl (Or.inl rfl) (pe_tup (pa_cons (pe_op op_repN (pe_tup (pa_cons pe_non pa_nil)) (pe_callB (call_len_seq) (by rfl) B.len (by decide +kernel) (pa_cons (pe_ix ix_tup (pv 3) pe_int (fun _ _ => rfl)) pa_nil))) (pa_cons (pe_op op_repN (pe_tup (pa_cons pe_non pa_nil)) (pe_callB (call_len_seq) (by rfl) B.len (by decide +kernel) (pa_cons (pe_ix ix_tup (pv 3) pe_int (fun _ _ => rfl)) pa_nil))) pa_nil))))
  (pss_cons (ps_for PassesOwn.never rfl (pi_range1 (by rfl) B.range (pa_cons (pe_callB (call_len_seq) (by rfl) B.len (by decide +kernel) (pa_cons (pe_ix ix_tup (pv 3) pe_int (fun _ _ => rfl)) pa_nil)) pa_nil)) (pg_name (i := 10) sc_law.nd rfl (Or.inl rfl))
      (pss_cons (ps_set (i := 11) sc_law.nd rfl (Or.inl rfl) (pe_tup (pa_cons (pe_op op_catA (pe_op op_catA (pe_slice sl_tupA (pe_ix ix_tup (pv 9) pe_int (fun _ _ => rfl)) po_none (po_some (pv 10))) (pe_tup (pa_cons (pe_ix ix_tup (pe_ix ix_tup (pv 4) pe_int (fun _ _ => rfl)) (pv 10) (fun _ _ => rfl)) pa_nil))) (pe_slice sl_tupA (pe_ix ix_tup (pv 9) pe_int (fun _ _ => rfl)) (po_some (pe_op op_add (pv 10) pe_int)) po_none)) (pa_cons (pe_ix ix_tup (pv 9) pe_int (fun _ _ => rfl)) pa_nil))))
      (pss_cons (ps_set (i := 12) sc_law.nd rfl (Or.inl rfl) (pe_op op_sub (pe_op op_mul (pv 7) (pe_f D_law_weight (hr.mono (by omega)) pass0 (pa_cons (pv 1) (pa_cons (pv 11) pa_nil)))) (pe_callTy (call_int1) (by rfl) B.int (by decide +kernel) (pa_cons (pe_cmpR (op_neD (hu64 hr)) (pe_ix ix_tup (pe_ix ix_tup (pv 4) pe_int (fun _ _ => rfl)) (pv 10) (fun _ _ => rfl)) (pe_ix ix_tup (pe_ix ix_tup (pv 3) pe_int (fun _ _ => rfl)) (pv 10) (fun _ _ => rfl)) (nomark _)) pa_nil))))
      (pss_cons (ps_if (pt_not (pt_val (pe_f D_law_same (hr.mono (by omega)) pass0 (pa_cons (pe_f D_recording_worth (hr.mono (by omega)) pass0 (pa_cons (pv 2) (pa_cons (pv 6) (pa_cons (pv 10) (pa_cons (pe_ix ix_tup (pe_ix ix_tup (pv 4) pe_int (fun _ _ => rfl)) (pv 10) (fun _ _ => rfl)) pa_nil))))) (pa_cons (pv 12) pa_nil)))))
          (pss_one (ps_ret pe_bl))
          (pss_nil))
      (pss_cons (ps_set (i := 8) sc_law.nd rfl (Or.inl rfl) (pe_op op_add (pv 8) (pv 12)))
      (pss_cons (ps_set (i := 13) sc_law.nd rfl (Or.inl rfl) (pe_lst (pa_cons (pe_ix ix_tup (pe_ix ix_tup (pv 5) pe_int (fun _ _ => rfl)) (pv 10) (fun _ _ => rfl)) pa_nil)))
      (C8.pss_cut (ps_if (pt_cmpR (op_eqD hr.units) (pe_ix ix_tup (pe_ix ix_tup (pv 5) pe_int (fun _ _ => rfl)) (pv 10) (fun _ _ => rfl)) pe_str (nomark _))
          (pss_one (ps_set (i := 13) sc_law.nd rfl (Or.inl rfl) (pe_op op_cat (pe_lst (pa_cons pe_non pa_nil)) (pe_f D_law_options (hr.mono (by omega)) pass0 (pa_cons (pv 1) (pa_cons (pv 10) pa_nil))))))
          (pss_nil))
      (pss_one (ps_if (pt_not (pt_val (pe_f D_law_same (hr.mono (by omega)) pass0 (pa_cons (pe_f D_recording_entries (hr.mono (by omega)) pass0 (pa_cons (pv 2) (pa_cons (pv 5) (pa_cons (pv 10) pa_nil)))) (pa_cons (pe_callTy (call_tuple_of) (by rfl) B.tuple (by decide +kernel) (pa_cons (pv 13) pa_nil)) pa_nil)))))
          (pss_one (ps_ret pe_bl))
          (pss_nil))))))))))
  (pss_cons (ps_for PassesOwn.never rfl (pi_range1 (by rfl) B.range (pa_cons (pe_callB (call_len_seq) (by rfl) B.len (by decide +kernel) (pa_cons (pe_ix ix_tup (pv 3) pe_int (fun _ _ => rfl)) pa_nil)) pa_nil)) (pg_name (i := 14) sc_law.nd rfl (Or.inl rfl))
      (pss_cons (ps_set (i := 12) sc_law.nd rfl (Or.inl rfl) (pe_op op_sub pe_int (pe_callTy (call_int1) (by rfl) B.int (by decide +kernel) (pa_cons (pe_cmpR (op_neD (hu64 hr)) (pe_ix ix_tup (pe_ix ix_tup (pv 4) pe_int (fun _ _ => rfl)) (pv 14) (fun _ _ => rfl)) (pe_ix ix_tup (pe_ix ix_tup (pv 3) pe_int (fun _ _ => rfl)) (pv 14) (fun _ _ => rfl)) (nomark _)) pa_nil))))
      (C8.pss_cut (ps_if (pt_cmpR op_notN (pe_ix ix_tup (pe_ix ix_tup (pv 4) pe_int (fun _ _ => rfl)) (pv 14) (fun _ _ => rfl)) pe_non (nomark _))
          (pss_one (ps_set (i := 12) sc_law.nd rfl (Or.inl rfl) (pe_op op_sub (pv 12) (pe_op op_mul (pv 7) (pe_ix ix_tup (pe_ix ix_tup (pe_ix ix_list (pe_dget (hu_of hr) (pv 1) pe_str (fun _ _ => rfl)) (pv 14) (fun _ _ => rfl)) pe_int (fun _ _ => rfl)) pe_int (fun _ _ => rfl))))))
          (pss_nil))
      (pss_cons (ps_if (pt_not (pt_val (pe_f D_law_same (hr.mono (by omega)) pass0 (pa_cons (pe_f D_pass_worth (hr.mono (by omega)) pass0 (pa_cons (pv 2) (pa_cons (pv 6) (pa_cons (pv 14) (pa_cons (pe_ix ix_tup (pe_ix ix_tup (pv 4) pe_int (fun _ _ => rfl)) (pv 14) (fun _ _ => rfl)) pa_nil))))) (pa_cons (pv 12) pa_nil)))))
          (pss_one (ps_ret pe_bl))
          (pss_nil))
      (pss_cons (ps_set (i := 8) sc_law.nd rfl (Or.inl rfl) (pe_op op_add (pv 8) (pv 12)))
      (pss_cons (ps_set (i := 13) sc_law.nd rfl (Or.inl rfl) (pe_lst (pa_cons (pe_ix ix_tup (pe_ix ix_tup (pv 5) pe_int (fun _ _ => rfl)) (pv 14) (fun _ _ => rfl)) pa_nil)))
      (C8.pss_cut (ps_if (pt_cmpR (op_eqD hr.units) (pe_ix ix_tup (pe_ix ix_tup (pv 5) pe_int (fun _ _ => rfl)) (pv 14) (fun _ _ => rfl)) pe_str (nomark _))
          (pss_one (ps_set (i := 13) sc_law.nd rfl (Or.inl rfl) (pe_op op_cat (pe_lst (pa_cons pe_non pa_nil)) (pe_listRg rfl (by rfl) B.list (prg_1 (by rfl) B.range (pe_ix ix_tup (pe_ix ix_list (pe_dget (hu_of hr) (pv 1) pe_str (fun _ _ => rfl)) (pe_ix ix_tup (pe_ix ix_list (pe_dget (hu_of hr) (pv 1) pe_str (fun _ _ => rfl)) (pv 14) (fun _ _ => rfl)) pe_int (fun _ _ => rfl)) (fun _ _ => rfl)) pe_int (fun _ _ => rfl)))))))
          (pss_nil))
      (pss_one (ps_if (pt_not (pt_val (pe_f D_law_same (hr.mono (by omega)) pass0 (pa_cons (pe_f D_pass_entries (hr.mono (by omega)) pass0 (pa_cons (pv 2) (pa_cons (pv 5) (pa_cons (pv 14) pa_nil)))) (pa_cons (pe_callTy (call_tuple_of) (by rfl) B.tuple (by decide +kernel) (pa_cons (pv 13) pa_nil)) pa_nil)))))
          (pss_one (ps_ret pe_bl))
          (pss_nil))))))))))
  (pss_one (ps_ret (pe_f D_law_same (hr.mono (by omega)) pass0 (pa_cons (pe_f D_goal_weight (hr.mono (by omega)) pass0 (pa_cons (pv 2) (pa_cons (pv 6) (pa_cons (pv 4) pa_nil)))) (pa_cons (pv 8) pa_nil)))))))))))))))
    , ?_⟩
  refine ⟨_, rfl, a, ns, rfl, hS, fun wd H1 W n0 s1 wg hwd => ?_⟩
  refine ⟨rfl, _, rfl, wd, W, rfl, wg, hwd, fun H2 s2 => ⟨W, rfl, wg.ok, fun ac H3 nA s3 hW => ?_⟩⟩
  have s03 := (s1.trans s2).trans s3
  have hwd3 := (hwd.same s2).same s3
  refine ⟨_, rfl, _, rfl, a, ns, 24, wd, W, false, rfl, s03.seq hS, by decide, wg, hwd3, fun v0 H4 c0 s4 cg0 dp0 => ?_⟩
  have wok := wg.ok
  refine ⟨_, rfl, _, rfl, a, ns, 28, wd, W, false, rfl, (s03.trans s4).seq hS, by decide, wg, hwd3.same s4, fun v1 H5 c1 s5 cg1 dp1 => ?_⟩
  refine ⟨_, rfl, _, rfl, a, ns, 32, wd, W, true, rfl, ((s03.trans s4).trans s5).seq hS, by decide, wg, (hwd3.same s4).same s5, fun v2 H6 c2 s6 cg2 dp2 => ?_⟩
  have hwd := ((hwd3.same s4).same s5).same s6
  have hW := ((hW.same s4).same s5).same s6
  have dp0 := dp_same (s5.trans s6) dp0
  have dp1 := dp_same s6 dp1
  clear s03 hwd3 s1 s2 s3 s4 s5 s6 hS
  have nR := wok.nRecs
  have nP := wok.nPass
  refine ⟨_, rfl, _, rfl, Nat.zero_le _, fun L hL x dx hx hdx ne => ?_⟩
  have sL := same_new hL (.lst [])
  have sN : Same H6 (upd (upd (upd H6 L (.lst [])) dx (.own x)) x (.ins CO dx [])) := fun b z e => by
    have e := sL _ _ e
    rw [upd_ne (ne_of_none e hx), upd_ne (ne_of_none e hdx)]
    exact e
  refine ⟨x, dx, ac, L, W, c0, v0, [], rfl, upd_same, wok, hW.same sN, cg0, dp_same sN dp0, (by rw [upd_ne (ne_of_none (show (upd H6 L (.lst [])) L = _ from upd_same) hx), upd_ne (ne_of_none (show (upd H6 L (.lst [])) L = _ from upd_same) hdx)]; exact upd_same), by decide, rfl, fun H9 ms X9 pw mem hG => ?_⟩
  have s9 : Same H6 H9 := fun b z e => X9 b z (ne_of_none (sL _ _ e) hx) (sN _ _ e)
  have hwd := hwd.same s9
  have hW := hW.same s9
  have dp0 := dp_same s9 dp0
  have dp1 := dp_same s9 dp1
  have dp2 := dp_same s9 dp2
  clear s9 X9 sN hx hdx sL hL
  refine ⟨rfl, ?_⟩
  obtain ⟨t, tm, tt, xm, xt, rfl, ht, hm, htt, hxm, hxt, lm, lt⟩ := case_two dp0
  obtain ⟨u, um, ut, ym, yt, rfl, hu, hum, hut, hym, hyt, km, kt⟩ := case_two dp1
  obtain ⟨b, bm, bt, zm, zt, rfl, hb, hbm, hbt, hzm, hzt, jm, jt⟩ := case_two dp2
  have nM := cg0.nM; have nT := cg0.nT; have nM1 := cg1.nM; have nT1 := cg1.nT; have nM2 := cg2.nM; have nT2 := cg2.nT
  refine ⟨_, rfl, t, _, 0, _, rfl, rfl, ht, rfl, tm, xm, rfl, .inr hm, _, _, rfl, rfl, _, rfl, t, _, 1, _, rfl, rfl, ht, rfl, tt, xt, rfl, .inr htt, _, _, rfl, rfl, ?_⟩
  have ef : (1 : Int) + (xm.length : Int) + (xt.length : Int) = factW W := by unfold factW; omega
  refine ⟨sz1_, fun p hp => ?_⟩
  have s1 := same_new hp (.tup [.non])
  refine ⟨_, rfl, t, _, 0, _, rfl, rfl, Same.tup s1 ht, rfl, tm, xm, rfl, .inr (Same.tup s1 hm), ?_⟩
  refine rep_non upd_same (by omega) (fun r1 H10 s2 hr1 => ?_)
  have s12 := s1.trans s2
  refine ⟨sz1_, fun p hp2 => ?_⟩
  have s3 := same_new hp2 (.tup [.non])
  have s13 := s12.trans s3
  refine ⟨_, rfl, t, _, 1, _, rfl, rfl, Same.tup s13 ht, rfl, tt, xt, rfl, .inr (Same.tup s13 htt), ?_⟩
  refine rep_non upd_same (by omega) (fun r2 H11 s4 hr2 => ⟨sz2_, fun nt hnt => ?_⟩)
  have s5 := same_new hnt (.tup [.ref r1, .ref r2])
  have s15 := (s13.trans s4).trans s5
  have hnt1 : SqT K (upd H11 nt (.tup [.ref r1, .ref r2])) nt [.ref r1, .ref r2] := SqT.of upd_same
  have hr1 : SqT K (upd H11 nt (.tup [.ref r1, .ref r2])) r1 (List.replicate W.recs.length .non) := by rw [← nM, ← lm]; exact Same.tup ((s3.trans s4).trans s5) hr1
  have hr2 : SqT K (upd H11 nt (.tup [.ref r1, .ref r2])) r2 (List.replicate W.pass.length .non) := by rw [← nT, ← lt]; exact Same.tup s5 hr2
  generalize upd H11 nt (.tup [.ref r1, .ref r2]) = H12 at s15 hnt1 hr1 hr2
  have hwd := hwd.same s15
  have hW := hW.same s15
  have hG := hG.same s15
  have dp0 := dp_same s15 dp0
  have dp1 := dp_same s15 dp1
  have dp2 := dp_same s15 dp2
  have ht := Same.tup s15 ht; have hm := Same.tup s15 hm; have htt := Same.tup s15 htt; have hxm := dpAll_same s15 hxm; have hxt := dpAll_same s15 hxt
  have hu := Same.tup s15 hu; have hum := Same.tup s15 hum; have hut := Same.tup s15 hut; have hym := dpAll_same s15 hym; have hyt := dpAll_same s15 hyt
  have hb := Same.tup s15 hb; have hbm := Same.tup s15 hbm; have hbt := Same.tup s15 hbt; have hzm := dpAll_same s15 hzm; have hzt := dpAll_same s15 hzt
  clear s15 s13 s12 s1 s2 s3 s4 s5 hp hp2 hnt
  refine ⟨_, rfl, t, _, 0, _, rfl, rfl, ht, rfl, tm, xm, rfl, .inr hm, _, rfl, by omega, by omega, for_range (lo := 0) (n := (xm.length : Int).toNat) (fun i σ H' => ∃ y10 y11 y12 y13, σ = [some (.ref a), some (.ref wd), some (.ref ac), some (.ref t), some (.ref u), some (.ref b), some (.ref x), some (.int (factW W)), some (.int (totM W c0 c1 i)), some (.ref nt), y10, y11, y12, y13, none] ∧ Same H12 H') ⟨none, none, none, none, by rw [← ef]; show _ = [_, _, _, _, _, _, _, _, some (V.int (factW W * 0 - 0)), _, _, _, _, _, _]; rw [Int.mul_zero]; rfl, Same.refl _⟩ (fun i σ H' hi hI => ?_) (fun σ H' hI => ?_)⟩
  · obtain ⟨y10, y11, y12, y13, rfl, hs⟩ := hI
    have hi' : i < W.recs.length := by omega
    obtain ⟨z, hz⟩ : ∃ z, W.recs[i]? = some z := ⟨_, List.getElem?_eq_getElem hi'⟩
    have zin := List.mem_of_getElem? hz
    obtain ⟨ea, hea⟩ : ∃ e, c0.made[i]? = some e := ⟨_, List.getElem?_eq_getElem (by omega)⟩
    obtain ⟨ee, hee⟩ : ∃ e, c1.made[i]? = some e := ⟨_, List.getElem?_eq_getElem (by omega)⟩
    obtain ⟨eo, heo⟩ : ∃ e, c2.made[i]? = some e := ⟨_, List.getElem?_eq_getElem (by omega)⟩
    obtain ⟨va, hva, dva⟩ := dpAll_get2 hxm hea
    obtain ⟨ve, hve, dve⟩ := dpAll_get2 hym hee
    obtain ⟨vo, hvo, dvo⟩ := dpAll_get2 hzm heo
    refine ⟨_, rfl, nt, _, 0, _, rfl, rfl, Same.tup hs hnt1, rfl, _, rfl, _, rfl, ?_⟩
    refine slA_any (lo := none) (hi := some (0 + (i : Int))) (Same.tup hs hr1) fun r3 Ha sa hr3 => ?_
    rw [Int.zero_add, cut_to (by rw [List.length_replicate]; omega)] at hr3
    have ha := hs.trans sa
    refine ⟨_, rfl, u, _, 0, _, rfl, rfl, Same.tup ha hu, rfl, _, rfl, um, ym, (i : Int), ve, rfl, by rw [Int.zero_add], Same.tup ha hum, atI_nat hve, (by show 1 ≤ sizeLine; decide), fun w1 hw1 => ?_⟩
    have s6 := same_new hw1 (.tup [ve])
    have hw6 : SqT K (upd Ha w1 (.tup [ve])) w1 [ve] := SqT.of upd_same
    generalize upd Ha w1 (.tup [ve]) = Hb at s6 hw6
    refine catA_any (Same.tup s6 hr3) hw6 (Nat.le_trans (show _ ≤ 100 by rw [List.length_take]; show min i _ + 1 ≤ 100; omega) (show 100 ≤ sizeLine by decide)) fun r4 Hc s7 hr4 => ?_
    have hc := (ha.trans s6).trans s7
    refine ⟨_, rfl, nt, _, 0, _, rfl, rfl, Same.tup hc hnt1, rfl, _, rfl, _, _, rfl, rfl, _, rfl, ?_⟩
    unfold tNoPart
    refine slA_any (Same.tup hc hr1) fun r5 Hd s8 hr5 => ?_
    rw [Int.zero_add, show (i : Int) + 1 = ((i + 1 : Nat) : Int) from rfl, cut_from (by rw [List.length_replicate]; omega)] at hr5
    refine catA_any (Same.tup s8 hr4) hr5 (Nat.le_trans (show _ ≤ 100 by rw [List.length_append, List.length_take, List.length_drop, List.length_replicate]; show min i _ + 1 + (_ - (i + 1)) ≤ 100; omega) (show 100 ≤ sizeLine by decide)) fun r6 He s9 hr6 => ?_
    rw [set_cut (by rw [List.length_replicate]; exact hi')] at hr6
    have he := (hc.trans s8).trans s9
    refine ⟨_, rfl, nt, _, 1, _, rfl, rfl, Same.tup he hnt1, rfl, sz2_, fun p3 hp3 => ?_⟩
    have sp := same_new hp3 (.tup [.ref r6, .ref r2])
    have hf := he.trans sp
    have dset : DpAll K He ((List.replicate W.recs.length V.non).set i ve) (((List.replicate W.recs.length EntM.non).set i ee).map entM) := by
      rw [List.map_set, List.map_replicate]
      exact dpAll_set i (dpAll_nons _) (dp_same he dve)
    have dtk : DpAll K He (List.replicate W.pass.length V.non) ((List.replicate W.pass.length EntT.non).map entT) := by
      rw [List.map_replicate]
      exact dpAll_nons _
    have dv : Dp K (upd He p3 (.tup [.ref r6, .ref r2])) (.ref p3) (casePy (oneC W i ee)) :=
      .tup (SqT.of upd_same) (.cons (.tup (Same.tup sp hr6) (dpAll_same sp dset)) (.cons (.tup (Same.tup hf hr2) (dpAll_same sp dtk)) .nil))
    generalize upd He p3 (.tup [.ref r6, .ref r2]) = Hf at hf dv
    clear hr3 hr4 hr5 hr6 s6 s7 s8 s9 sa ha hc he sp dset dtk hp3 hw6 hw1
    have fb := fac_bound W wok
    have gone : CaseG W false (oneC W i ee) := one_g (cg1.mOk ee (List.mem_of_getElem? hee))
    refine ⟨_, rfl, _, rfl, _, rfl, wd, .ref p3, W, oneC W i ee, rfl, wok, hwd.same hf, gone, dv, fun Hg sg => ?_⟩
    have hg := hf.trans sg
    refine ⟨_, _, rfl, rfl, .inl ⟨by omega, by omega⟩, _, rfl, u, _, 0, _, rfl, rfl, Same.tup hg hu, rfl, _, rfl, um, ym, (i : Int), ve, rfl, by rw [Int.zero_add], Same.tup hg hum, atI_nat hve, _, rfl, t, _, 0, _, rfl, rfl, Same.tup hg ht, rfl, _, rfl, tm, xm, (i : Int), va, rfl, by rw [Int.zero_add], Same.tup hg hm, atI_nat hva, entM ee, entM ea, dp_same hg dve, dp_same hg dva, shp_entM ee, shp_entM ea, .inr ⟨_, rfl, ?_⟩⟩
    have hd := due_m (a := ea) (e := ee) hz
    refine ⟨_, _, rfl, rfl, ?_⟩
    refine ⟨_, rfl, _, rfl, _, rfl, _, rfl, u, _, 0, _, rfl, rfl, Same.tup hg hu, rfl, _, rfl, um, ym, (i : Int), ve, rfl, by rw [Int.zero_add], Same.tup hg hum, atI_nat hve, ac, x, i, ve, W, c0, ms, z, ea, ee, by rw [Int.zero_add]; rfl, wok, hW.same hg, hG.same hg, hz, hea, dp_same hg dve, fun Hh sh => ?_⟩
    have hh := hg.trans sh
    refine ⟨_, rfl, _, _, .int (worthM W z ea ee), rfl, fit_int, .int _, (by rw [← hd]; exact .int _), _, rfl, iteF' rfl ?_⟩
    refine ⟨_, rfl, _, rfl, _, _, rfl, rfl, ?_⟩
    refine ⟨_, rfl, b, _, 0, _, rfl, rfl, Same.tup hh hb, rfl, _, rfl, bm, zm, (i : Int), vo, rfl, by rw [Int.zero_add], Same.tup hh hbm, atI_nat hvo, (by show 1 ≤ sizeLine; decide), fun E1 hE1 => ?_⟩
    have sE := same_new hE1 (.lst [vo])
    have hi1 := hh.trans sE
    refine ⟨fun σ' H' => ∃ (E : Addr) (ys : List V) (y12 : Option V), σ' = [some (.ref a), some (.ref wd), some (.ref ac), some (.ref t), some (.ref u), some (.ref b), some (.ref x), some (.int (factW W)), some (.int (totM W c0 c1 (i + 1))), some (.ref nt), some (.int (0 + (i : Int))), some (.ref p3), y12, some (.ref E), none] ∧ H' E = some (.lst ys) ∧ DpAll K H' ys ((entsR W z eo).map entX) ∧ Same H12 H', ?_, fun σ' Hj hj => ?_⟩
    · refine ⟨_, rfl, b, _, 0, _, rfl, rfl, Same.tup hi1 hb, rfl, _, rfl, bm, zm, (i : Int), vo, rfl, by rw [Int.zero_add], Same.tup hi1 hbm, atI_nat hvo, entM eo, .str "open", dp_same hi1 dvo, .str _, shp_entM eo, by decide +kernel, _, rfl, ?_⟩
      rw [opn_eqM]
      have etot : V.int (totM W c0 c1 (i + 1)) = V.int (totM W c0 c1 i + (factW W * weightW W (oneC W i ee) - if (!PyData.eqv (entM ee) (entM ea)) = true then 1 else 0)) := by rw [hd, totM_succ hz hea hee]
      rw [etot]
      have keep : ∀ e, eo = e → entsR W z e = [mX e] → DpAll K (upd Hh E1 (.lst [vo])) [vo] ((entsR W z e).map entX) := fun e he hk => by
        rw [hk, ← he]
        refine .cons ?_ .nil
        rw [entX_m]
        exact dp_same hi1 dvo
      cases eo with
      | opn =>
        refine iteT' rfl ⟨sz1_, fun N hN => ?_⟩
        have sN := same_new hN (.lst [.non])
        refine ⟨_, rfl, _, rfl, wd, W, i, z, by rw [Int.zero_add]; rfl, wok, hwd.same (hi1.trans sN), hz, fun l xs Hl sl hl hx hsp => ?_⟩
        have lx := paired_len hsp
        have lo := optsW_len wok (wok.recs z zin)
        refine ⟨N, l, [.non], xs, rfl, rfl, sl _ _ upd_same, hx, Nat.le_trans (show _ ≤ 300 by show 1 + xs.length ≤ 300; omega) (show 300 ≤ sizeLine by decide), fun E2 hE2 => ?_⟩
        have s8 := same_new hE2 (.lst ([.non] ++ xs))
        exact ⟨E2, _, _, rfl, upd_same, .cons .non (dpAll_same s8 (spans_dpX hsp)), ((hi1.trans sN).trans sl).trans s8⟩
      | non => exact iteF' rfl ⟨E1, _, _, rfl, upd_same, keep _ rfl rfl, hi1⟩
      | at_ s' p' => exact iteF' rfl ⟨E1, _, _, rfl, upd_same, keep _ rfl rfl, hi1⟩
    obtain ⟨E2, ys, y12, rfl, hE2, hys, hj1⟩ := hj
    refine ⟨_, rfl, _, rfl, _, rfl, ac, .ref b, i, W, c2, z, eo, by rw [Int.zero_add]; rfl, wok, hW.same hj1, hz, heo, dp_same hj1 dp2, fun rr Hk sk hrr => ?_⟩
    refine ⟨_, rfl, E2, ys, rfl, .inl ⟨SqL.of (sk _ _ hE2), fun te hte => ?_⟩⟩
    have s7 := same_new hte (.tup ys)
    refine ⟨_, _, choPy (entsR W z eo), rfl, fit_cho (entsR_len wok zin eo) 5, dp_same s7 hrr, .tup (SqT.of upd_same) (dpAll_same (sk.trans s7) hys), _, rfl, iteF' rfl ?_⟩
    exact ⟨_, _, _, _, rfl, (hj1.trans sk).trans s7⟩
  obtain ⟨y10, y11, y12, y13, rfl, hs0⟩ := hI
  rw [show (xm.length : Int).toNat = W.recs.length by omega, ← totT_zero]
  refine ⟨_, rfl, t, _, 1, _, rfl, rfl, Same.tup hs0 ht, rfl, tt, xt, rfl, .inr (Same.tup hs0 htt), _, rfl, by omega, by omega, for_range (lo := 0) (n := (xt.length : Int).toNat) (fun i σ H' => ∃ y12 y13 y14, σ = [some (.ref a), some (.ref wd), some (.ref ac), some (.ref t), some (.ref u), some (.ref b), some (.ref x), some (.int (factW W)), some (.int (totT W c0 c1 i)), some (.ref nt), y10, y11, y12, y13, y14] ∧ Same H12 H') ⟨_, _, _, rfl, hs0⟩ (fun i σ H' hi hI => ?_) (fun σ H' hI => ?_)⟩
  · obtain ⟨y12, y13, y14, rfl, hs⟩ := hI
    have hi' : i < W.pass.length := by omega
    obtain ⟨z, hz⟩ : ∃ z, W.pass[i]? = some z := ⟨_, List.getElem?_eq_getElem hi'⟩
    have zok := wok.pass z (List.mem_of_getElem? hz)
    have fb := fac_bound W wok
    obtain ⟨ea, hea⟩ : ∃ e, c0.taken[i]? = some e := ⟨_, List.getElem?_eq_getElem (by omega)⟩
    obtain ⟨ee, hee⟩ : ∃ e, c1.taken[i]? = some e := ⟨_, List.getElem?_eq_getElem (by omega)⟩
    obtain ⟨eo, heo⟩ : ∃ e, c2.taken[i]? = some e := ⟨_, List.getElem?_eq_getElem (by omega)⟩
    obtain ⟨va, hva, dva⟩ := dpAll_get2 hxt hea
    obtain ⟨ve, hve, dve⟩ := dpAll_get2 hyt hee
    obtain ⟨vo, hvo, dvo⟩ := dpAll_get2 hzt heo
    have dif : (0 : Int) - (if (!PyData.eqv (entT ee) (entT ea)) = true then 1 else 0) = -diffP (entT ea) (entT ee) := by
      unfold diffP
      cases PyData.eqv (entT ee) (entT ea) <;> rfl
    refine ⟨_, rfl, u, _, 1, _, rfl, rfl, Same.tup hs hu, rfl, _, rfl, ut, yt, (i : Int), ve, rfl, by rw [Int.zero_add], Same.tup hs hut, atI_nat hve, _, rfl, t, _, 1, _, rfl, rfl, Same.tup hs ht, rfl, _, rfl, tt, xt, (i : Int), va, rfl, by rw [Int.zero_add], Same.tup hs htt, atI_nat hva, entT ee, entT ea, dp_same hs dve, dp_same hs dva, shp_entT ee, shp_entT ea, .inr ⟨_, rfl, _, _, rfl, rfl, ?_⟩⟩
    refine ⟨fun σ' H1 => H1 = H' ∧ σ' = [some (.ref a), some (.ref wd), some (.ref ac), some (.ref t), some (.ref u), some (.ref b), some (.ref x), some (.int (factW W)), some (.int (totT W c0 c1 i)), some (.ref nt), y10, y11, some (.int (worthT W z ea ee)), y13, some (.int (0 + (i : Int)))], ?_, fun σ' H1 hj => ?_⟩
    · refine ⟨_, rfl, u, _, 1, _, rfl, rfl, Same.tup hs hu, rfl, _, rfl, ut, yt, (i : Int), ve, rfl, by rw [Int.zero_add], Same.tup hs hut, atI_nat hve, rfl, _, rfl, ?_⟩
      by_cases o : onT ee = true
      · refine iteT' (by rw [decide_eq_false ((onT_non dve).mp o)]; rfl) ?_
        obtain ⟨wa, wb, wc, we, xa, xb, xc, xd, g, a1, a2, b1, b2, cc1, cc2, d1, d2⟩ := (hwd.same hs).ex
        obtain ⟨yp, hyp, dyp⟩ := dpAll_get2 d2 hz
        obtain ⟨p0, p1, p2, rfl, k1, k2, k3⟩ := pas_open dyp
        have hw : (0 : Int) - (if (!PyData.eqv (entT ee) (entT ea)) = true then 1 else 0) - factW W * z.fee = worthT W z ea ee := by
          unfold worthT
          rw [dif, if_pos o, Int.neg_mul]
          omega
        refine ⟨_, rfl, _, rfl, _, rfl, wd, _, rfl, get_p g, _, rfl, we, xd, (i : Int), _, rfl, by rw [Int.zero_add], SqL.of d1, atI_nat hyp, p0, _, 4, _, rfl, rfl, k1, rfl, p2, _, 2, _, rfl, rfl, k3, rfl, _, _, rfl, rfl, .inl ⟨by omega, by omega⟩, _, _, rfl, rfl, rfl, by rw [← hw]; rfl⟩
      · refine iteF' (by rw [decide_eq_true (Classical.not_not.mp fun h => o ((onT_non dve).mpr h))]; rfl) ?_
        have hw : (0 : Int) - (if (!PyData.eqv (entT ee) (entT ea)) = true then 1 else 0) = worthT W z ea ee := by
          unfold worthT
          rw [dif, if_neg o]
          omega
        exact ⟨rfl, by rw [← hw]; rfl⟩
    obtain ⟨rfl, rfl⟩ := hj
    refine ⟨_, rfl, _, rfl, _, rfl, _, rfl, u, _, 1, _, rfl, rfl, Same.tup hs hu, rfl, _, rfl, ut, yt, (i : Int), ve, rfl, by rw [Int.zero_add], Same.tup hs hut, atI_nat hve, ac, x, i, ve, W, c0, ms, z, ea, ee, by rw [Int.zero_add]; rfl, wok, hW.same hs, hG.same hs, hz, hea, dp_same hs dve, ?_⟩
    refine ⟨_, rfl, _, _, .int (worthT W z ea ee), rfl, fit_int, .int _, .int _, _, rfl, iteF' rfl ?_⟩
    refine ⟨_, rfl, _, rfl, _, _, rfl, rfl, ?_⟩
    refine ⟨_, rfl, b, _, 1, _, rfl, rfl, Same.tup hs hb, rfl, _, rfl, bt, zt, (i : Int), vo, rfl, by rw [Int.zero_add], Same.tup hs hbt, atI_nat hvo, (by show 1 ≤ sizeLine; decide), fun E1 hE1 => ?_⟩
    have sE := same_new hE1 (.lst [vo])
    have hi1 := hs.trans sE
    refine ⟨fun σ' H' => ∃ (E : Addr) (ys : List V) (y12 : Option V), σ' = [some (.ref a), some (.ref wd), some (.ref ac), some (.ref t), some (.ref u), some (.ref b), some (.ref x), some (.int (factW W)), some (.int (totT W c0 c1 (i + 1))), some (.ref nt), y10, y11, y12, some (.ref E), some (.int (0 + (i : Int)))] ∧ H' E = some (.lst ys) ∧ DpAll K H' ys ((entsP W z eo).map entX) ∧ Same H12 H', ?_, fun σ' Hj hj => ?_⟩
    · refine ⟨_, rfl, b, _, 1, _, rfl, rfl, Same.tup hi1 hb, rfl, _, rfl, bt, zt, (i : Int), vo, rfl, by rw [Int.zero_add], Same.tup hi1 hbt, atI_nat hvo, entT eo, .str "open", dp_same hi1 dvo, .str _, shp_entT eo, by decide +kernel, _, rfl, ?_⟩
      rw [opn_eqT]
      have etot : V.int (totT W c0 c1 (i + 1)) = V.int (totT W c0 c1 i + worthT W z ea ee) := by rw [totT_succ hz hea hee]
      rw [etot]
      have keep : ∀ e, eo = e → entsP W z e = [tX e] → DpAll K (upd H1 E1 (.lst [vo])) [vo] ((entsP W z e).map entX) := fun e he hk => by
        rw [hk, ← he]
        refine .cons ?_ .nil
        rw [entX_t]
        exact dp_same hi1 dvo
      cases eo with
      | opn =>
        refine iteT' rfl ⟨sz1_, fun N hN => ?_⟩
        have sN := same_new hN (.lst [.non])
        have hN1 : (upd (upd H1 E1 (.lst [vo])) N (.lst [.non])) N = some (.lst [.non]) := upd_same
        have hi2 := hi1.trans sN
        generalize upd (upd H1 E1 (.lst [vo])) N (.lst [.non]) = H2 at hN1 hi2
        obtain ⟨wa, wb, wc, we, xa, xb, xc, xd, g, a1, a2, b1, b2, cc1, cc2, d1, d2⟩ := (hwd.same hi2).ex
        obtain ⟨yp, hyp, dyp⟩ := dpAll_get2 d2 hz
        obtain ⟨p0, p1, p2, rfl, k1, k2, k3⟩ := pas_open dyp
        obtain ⟨zt, hzt⟩ : ∃ zt, W.stas[z.sta]? = some zt := ⟨_, List.getElem?_eq_getElem zok.sta⟩
        have ztok := wok.stas zt (List.mem_of_getElem? hzt)
        have zant := ztok.antennas
        obtain ⟨yt, hyt, dyt⟩ := dpAll_get2 b2 hzt
        obtain ⟨q0, rfl, k4⟩ := sta_open dyt
        refine ⟨_, rfl, wd, _, rfl, get_t g, _, rfl, wd, _, rfl, get_p g, _, rfl, we, xd, (i : Int), _, rfl, by rw [Int.zero_add], SqL.of d1, atI_nat hyp, p0, _, 2, _, rfl, rfl, k1, rfl, wb, xb, (z.sta : Int), _, rfl, rfl, SqL.of b1, atI_nat hyt, q0, _, 1, _, rfl, rfl, k4, rfl, _, rfl, .of_le (by omega) (by omega) (by omega) (by omega), fun l hl => ?_⟩
        have s8 := same_new hl (.lst (rgV 0 zt.antennas))
        have lr := rgV_length 0 zt.antennas
        refine ⟨N, l, [.non], _, rfl, rfl, s8 _ _ hN1, upd_same, Nat.le_trans (show _ ≤ 300 by show 1 + _ ≤ 300; omega) (show 300 ≤ sizeLine by decide), fun E2 hE2 => ?_⟩
        have s9 := same_new hE2 (.lst ([.non] ++ rgV 0 zt.antennas))
        refine ⟨E2, _, _, rfl, upd_same, ?_, (hi2.trans s8).trans s9⟩
        have ec : choP W z = .non :: (List.range zt.antennas.toNat).map fun (k : Nat) => EntX.ant (k : Int) := by
          unfold choP antOf
          rw [hzt]
        show DpAll K _ _ ((choP W z).map entX)
        rw [ec]
        exact .cons .non (rgv_dp _)
      | non => exact iteF' rfl ⟨E1, _, _, rfl, upd_same, keep _ rfl rfl, hi1⟩
      | ant a' => exact iteF' rfl ⟨E1, _, _, rfl, upd_same, keep _ rfl rfl, hi1⟩
    obtain ⟨E2, ys, y12, rfl, hE2, hys, hj1⟩ := hj
    refine ⟨_, rfl, _, rfl, _, rfl, ac, .ref b, i, W, c2, z, eo, by rw [Int.zero_add]; rfl, wok, hW.same hj1, hz, heo, dp_same hj1 dp2, fun rr Hk sk hrr => ?_⟩
    refine ⟨_, rfl, E2, ys, rfl, .inl ⟨SqL.of (sk _ _ hE2), fun te hte => ?_⟩⟩
    have s7 := same_new hte (.tup ys)
    refine ⟨_, _, choPy (entsP W z eo), rfl, fit_cho (entsP_len wok z eo) 5, dp_same s7 hrr, .tup (SqT.of upd_same) (dpAll_same (sk.trans s7) hys), _, rfl, iteF' rfl ?_⟩
    exact ⟨_, _, _, rfl, (hj1.trans sk).trans s7⟩
  obtain ⟨y12, y13, y14, rfl, hs⟩ := hI
  rw [show (xt.length : Int).toNat = W.pass.length by omega, tot_end cg0 cg1]
  refine ⟨_, rfl, _, rfl, _, rfl, ac, x, .ref u, W, c0, c1, ms, rfl, wok, hW.same hs, hG.same hs, cg0, cg1, dp_same hs dp1, fun H2 s2 => ?_⟩
  exact ⟨_, rfl, _, _, .int (goalW W c0 c1), rfl, fit_int, .int _, .int _, q _⟩
end
end DP
namespace DP
open PySem PySem.Spec PyProof.Rows L2
section
variable {h : Heap} {K : PySem.W.Frag} {mg : Str → Option Value} {x m qual : Str} {st : Stmt} {ps : List Str} {C f p T : Addr} {oc oc' kV doc pm cdv ct : Value} {od od' an : Option Addr} {osl osl' : Array (Option Value)} {rest : List Value}
theorem cls_mk (X : K.In h) (G : h.Ns mainGlobals mg) (g : PySem.W.nsIn K mainGlobals x = some (some (.ref C))) (pg : PySem.W.plainGet K C Str.empty = true) (hd : PySem.W.hasDictIn K C = true) (po : PySem.W.plainOver K C = true)
    (sa : PySem.W.findIn K (.ref C) "__setattr__" = some (some (.builtin "object.__setattr__"))) (mk : PySem.W.makesIn K C = true) (kp : PySem.W.keepIn K (.ref C) = true) : ClsAt K mg x C := ⟨⟨pg, hd, po, sa⟩, mk, kp, PySem.W.mg_of X G g⟩
theorem met_mk (a : PySem.W.findIn K (.ref C) m = some (some (.ref f))) (i : PySem.W.isFn K (.ref f) = true) (l : K.lookup f = some ⟨oc, od, .func (PySem.W.fnOf m qual (defArgs st) (defBody st) (defScope st) .none kV doc pm an cdv ct), osl⟩)
    (c : PySem.W.codeIn K cdv qual = true) (k : PySem.W.keepIn K (.ref f) = true)
    (hb : ∀ (kV doc pm : Value) (an : Option Addr) (cdv ct : Value) (us : List Value), us.length = ps.length → bindArgs (PySem.W.fnOf m qual (defArgs st) (defBody st) (defScope st) .none kV doc pm an cdv ct) ⟨us, []⟩ = pure (ps.zip us)) : MAt K C m qual st ps := by
  have F := fun_mk (st := st) l c k
  exact ⟨f, _, F, ⟨a, i, k⟩, F.binds hb⟩
/-- one default, an int -/
theorem metD_mk {d : Int} {t : Tok} {n : Nat} (a : PySem.W.findIn K (.ref C) m = some (some (.ref f))) (i : PySem.W.isFn K (.ref f) = true) (l : K.lookup f = some ⟨oc, od, .func (PySem.W.fnOf m qual (defArgs st) (defBody st) (defScope st) (.ref T) kV doc pm an cdv ct), osl⟩)
    (lT : K.lookup T = some ⟨oc', od', .seq #[.int d t] n, osl'⟩)
    (c : PySem.W.codeIn K cdv qual = true) (k : PySem.W.keepIn K (.ref f) = true) (j : Nat) (hn : j + 1 = ps.length)
    (hb : ∀ (T : Addr) (kV doc pm : Value) (an : Option Addr) (cdv ct : Value) (us its : List Value), us.length = j → its.length = 1 →
      ∃ k, bindArgs (PySem.W.fnOf m qual (defArgs st) (defBody st) (defScope st) (.ref T) kV doc pm an cdv ct) ⟨us, []⟩ = seqItems? (.ref T) >>= k ∧ k (some its.toArray) = pure (ps.zip (us ++ its.drop 0))) : MAtD K C m qual st ps [.int d] := by
  have F : FunD K m qual (defArgs st) (defBody st) (defScope st) [.int d] [] f (PySem.W.fnOf m qual (defArgs st) (defBody st) (defScope st) (.ref T) kV doc pm an cdv ct) :=
    ⟨⟨oc, od, .ref T, kV, doc, pm, an, cdv, ct, osl, rfl, l, c, .inr ⟨List.cons_ne_nil _ _, T, _, [.int d t], n, rfl, lT, rfl, .cons ⟨t, rfl⟩ .nil⟩, .inl rfl⟩, k⟩
  obtain ⟨ds, v, b⟩ := F.binds1 (ps := ps) j 0 (List.cons_ne_nil _ _) hn hb
  exact ⟨f, _, ds, F, ⟨a, i, k⟩, b, v⟩
theorem smet_mk (a : PySem.W.findCls K (.ref C) (.type "type") m = some (.get (.builtin "staticmethod.__get__") (.ref p) .none (.ref C))) (r : PySem.W.recIn K p "staticmethod" = some (.ref f :: rest))
    (l : K.lookup f = some ⟨oc, od, .func (PySem.W.fnOf m qual (defArgs st) (defBody st) (defScope st) .none kV doc pm an cdv ct), osl⟩)
    (c : PySem.W.codeIn K cdv qual = true) (k : PySem.W.keepIn K (.ref f) = true)
    (hb : ∀ (kV doc pm : Value) (an : Option Addr) (cdv ct : Value) (us : List Value), us.length = ps.length → bindArgs (PySem.W.fnOf m qual (defArgs st) (defBody st) (defScope st) .none kV doc pm an cdv ct) ⟨us, []⟩ = pure (ps.zip us)) : SAt K C m qual st ps := by
  have F := fun_mk (st := st) l c k
  exact ⟨f, _, F, ⟨p, rest, a, r⟩, F.binds hb⟩
theorem int_mk {i : Int} {t : Tok} (X : K.In h) (G : h.Ns mainGlobals mg) (g : PySem.W.nsIn K mainGlobals x = some (some (.int i t))) : ∃ t, mg x = some (.int i t) := ⟨t, PySem.W.mg_of X G g⟩
theorem str_mk {z : Str} {t : Tok} (X : K.In h) (G : h.Ns mainGlobals mg) (g : PySem.W.nsIn K mainGlobals x = some (some (.str z t))) : ∃ t, mg x = some (.str z t) := ⟨t, PySem.W.mg_of X G g⟩
theorem cval_mk {i : Int} {t : Tok} (g : PySem.W.findCls K (.ref C) (.type "type") x = some (.val (.int i t))) : ∃ t, ClX.CVal K C (.type "type") x (.int i) (.int i t) := ⟨t, g, ⟨t, rfl⟩⟩
theorem tup4s_mk {a b c d : Str} {t0 t1 t2 t3 : Tok} {n : Nat} (l : K.lookup T = some ⟨.type "tuple", none, .seq #[.str a t0, .str b t1, .str c t2, .str d t3] n, osl⟩) : ∀ H, SqT K H T (([a, b, c, d]).map V.str) := fun H =>
  .inr ⟨_, _, _, l, rfl, rfl, by show 4 ≤ sizeLine; exact sz4_, .cons ⟨_, rfl⟩ (.cons ⟨_, rfl⟩ (.cons ⟨_, rfl⟩ (.cons ⟨_, rfl⟩ .nil)))⟩
theorem tup4r_mk {a b c d : Addr} {n : Nat} (l : K.lookup T = some ⟨.type "tuple", none, .seq #[.ref a, .ref b, .ref c, .ref d] n, osl⟩) : ∀ H, SqT K H T [.ref a, .ref b, .ref c, .ref d] := fun H =>
  .inr ⟨_, _, _, l, rfl, rfl, by show 4 ≤ sizeLine; exact sz4_, .cons rfl (.cons rfl (.cons rfl (.cons rfl .nil)))⟩
theorem tupk_mk {its : Array Value} {n : Nat} (l : K.lookup T = some ⟨.type "tuple", none, .seq its n, osl⟩) : ∃ o, K.lookup T = some o ∧ o.cls = .type "tuple" ∧ o.dict = none := ⟨_, l, rfl, rfl⟩
end
end DP
namespace DP
open PySem PySem.Spec PyProof.Rows L2
structure PF (K : PySem.W.Frag) (mg : Str → Option Value) (CL CS CT CR CP CW : Addr) : Prop where
  p_names_of : At K mg "names_of" s_names_of ["things"]
  p_read_light : At K mg "read_light" s_read_light ["line", "horizon"]
  p_read_satellite : At K mg "read_satellite" s_read_satellite ["line", "horizon", "things"]
  p_read_station : At K mg "read_station" s_read_station ["line", "_", "things"]
  p_read_recording : At K mg "read_recording" s_read_recording ["line", "horizon", "things"]
  p_read_pass : At K mg "read_pass" s_read_pass ["line", "horizon", "things"]
  p_most_things : At K mg "most_things" s_most_things ["sort"]
  p_read_sort : At K mg "read_sort" s_read_sort ["line", "ahead", "things"]
  p_read_things : At K mg "read_things" s_read_things ["lines", "horizon"]
  p_lines_of : At K mg "lines_of" s_lines_of ["text"]
  p_is_name : At K mg "is_name" s_is_name ["word"]
  p_is_number : At K mg "is_number" s_is_number ["word"]
  p_Line___init__ : MAt K CL "__init__" "Line.__init__" s_Line___init__ ["self", "number", "row"]
  p_Line_has_more : MAt K CL "has_more" "Line.has_more" s_Line_has_more ["self"]
  p_Line_due : MAt K CL "due" "Line.due" s_Line_due ["self"]
  p_Line_step : MAt K CL "step" "Line.step" s_Line_step ["self"]
  p_Line_read_choice : MAt K CL "read_choice" "Line.read_choice" s_Line_read_choice ["self", "choices"]
  p_Line_read_number : MAt K CL "read_number" "Line.read_number" s_Line_read_number ["self", "least", "most"]
  p_Line_read_field : MAt K CL "read_field" "Line.read_field" s_Line_read_field ["self", "word", "least", "most"]
  p_Line_due_name : MAt K CL "due_name" "Line.due_name" s_Line_due_name ["self"]
  p_Line_read_new_name : MAt K CL "read_new_name" "Line.read_new_name" s_Line_read_new_name ["self", "used"]
  p_Line_read_known_name : MAtD K CL "read_known_name" "Line.read_known_name" s_Line_read_known_name ["self", "names", "least"] [.int 0]
  p_Line_finish : MAt K CL "finish" "Line.finish" s_Line_finish ["self"]
  p_Satellite___init__ : MAt K CS "__init__" "Satellite.__init__" s_Satellite___init__ ["self", "name", "store", "battery", "start_level", "reserve", "charge", "settle", "light"]
  p_Station___init__ : MAt K CT "__init__" "Station.__init__" s_Station___init__ ["self", "name", "antennas", "turn"]
  p_Recording___init__ : MAt K CR "__init__" "Recording.__init__" s_Recording___init__ ["self", "name", "satellite", "earliest", "latest", "length", "size", "energy", "worth", "rank", "deadline"]
  p_Pass___init__ : MAt K CP "__init__" "Pass.__init__" s_Pass___init__ ["self", "name", "satellite", "station", "span", "room", "energy", "fee"]
  p_World___init__ : MAt K CW "__init__" "World.__init__" s_World___init__ ["self", "text", "horizon", "things"]
  p_World_parse : SAt K CW "parse" "World.parse" s_World_parse ["text"]
theorem hb_names_of : ∀ (kV doc pm : Value) (an : Option Addr) (cdv ct : Value) (us : List Value), us.length = (["things"] : List Str).length → bindArgs (PySem.W.fnOf "names_of" "names_of" (defArgs s_names_of) (defBody s_names_of) (defScope s_names_of) .none kV doc pm an cdv ct) ⟨us, []⟩ = pure ((["things"] : List Str).zip us) :=
  fun _ _ _ _ _ _ us hl => match us, hl with | [_], _ => rfl
theorem hb_read_light : ∀ (kV doc pm : Value) (an : Option Addr) (cdv ct : Value) (us : List Value), us.length = (["line", "horizon"] : List Str).length → bindArgs (PySem.W.fnOf "read_light" "read_light" (defArgs s_read_light) (defBody s_read_light) (defScope s_read_light) .none kV doc pm an cdv ct) ⟨us, []⟩ = pure ((["line", "horizon"] : List Str).zip us) :=
  fun _ _ _ _ _ _ us hl => match us, hl with | [_, _], _ => rfl
theorem hb_read_satellite : ∀ (kV doc pm : Value) (an : Option Addr) (cdv ct : Value) (us : List Value), us.length = (["line", "horizon", "things"] : List Str).length → bindArgs (PySem.W.fnOf "read_satellite" "read_satellite" (defArgs s_read_satellite) (defBody s_read_satellite) (defScope s_read_satellite) .none kV doc pm an cdv ct) ⟨us, []⟩ = pure ((["line", "horizon", "things"] : List Str).zip us) :=
  fun _ _ _ _ _ _ us hl => match us, hl with | [_, _, _], _ => rfl
theorem hb_read_station : ∀ (kV doc pm : Value) (an : Option Addr) (cdv ct : Value) (us : List Value), us.length = (["line", "_", "things"] : List Str).length → bindArgs (PySem.W.fnOf "read_station" "read_station" (defArgs s_read_station) (defBody s_read_station) (defScope s_read_station) .none kV doc pm an cdv ct) ⟨us, []⟩ = pure ((["line", "_", "things"] : List Str).zip us) :=
  fun _ _ _ _ _ _ us hl => match us, hl with | [_, _, _], _ => rfl
theorem hb_read_recording : ∀ (kV doc pm : Value) (an : Option Addr) (cdv ct : Value) (us : List Value), us.length = (["line", "horizon", "things"] : List Str).length → bindArgs (PySem.W.fnOf "read_recording" "read_recording" (defArgs s_read_recording) (defBody s_read_recording) (defScope s_read_recording) .none kV doc pm an cdv ct) ⟨us, []⟩ = pure ((["line", "horizon", "things"] : List Str).zip us) :=
  fun _ _ _ _ _ _ us hl => match us, hl with | [_, _, _], _ => rfl
theorem hb_read_pass : ∀ (kV doc pm : Value) (an : Option Addr) (cdv ct : Value) (us : List Value), us.length = (["line", "horizon", "things"] : List Str).length → bindArgs (PySem.W.fnOf "read_pass" "read_pass" (defArgs s_read_pass) (defBody s_read_pass) (defScope s_read_pass) .none kV doc pm an cdv ct) ⟨us, []⟩ = pure ((["line", "horizon", "things"] : List Str).zip us) :=
  fun _ _ _ _ _ _ us hl => match us, hl with | [_, _, _], _ => rfl
theorem hb_most_things : ∀ (kV doc pm : Value) (an : Option Addr) (cdv ct : Value) (us : List Value), us.length = (["sort"] : List Str).length → bindArgs (PySem.W.fnOf "most_things" "most_things" (defArgs s_most_things) (defBody s_most_things) (defScope s_most_things) .none kV doc pm an cdv ct) ⟨us, []⟩ = pure ((["sort"] : List Str).zip us) :=
  fun _ _ _ _ _ _ us hl => match us, hl with | [_], _ => rfl
theorem hb_read_sort : ∀ (kV doc pm : Value) (an : Option Addr) (cdv ct : Value) (us : List Value), us.length = (["line", "ahead", "things"] : List Str).length → bindArgs (PySem.W.fnOf "read_sort" "read_sort" (defArgs s_read_sort) (defBody s_read_sort) (defScope s_read_sort) .none kV doc pm an cdv ct) ⟨us, []⟩ = pure ((["line", "ahead", "things"] : List Str).zip us) :=
  fun _ _ _ _ _ _ us hl => match us, hl with | [_, _, _], _ => rfl
theorem hb_read_things : ∀ (kV doc pm : Value) (an : Option Addr) (cdv ct : Value) (us : List Value), us.length = (["lines", "horizon"] : List Str).length → bindArgs (PySem.W.fnOf "read_things" "read_things" (defArgs s_read_things) (defBody s_read_things) (defScope s_read_things) .none kV doc pm an cdv ct) ⟨us, []⟩ = pure ((["lines", "horizon"] : List Str).zip us) :=
  fun _ _ _ _ _ _ us hl => match us, hl with | [_, _], _ => rfl
theorem hb_lines_of : ∀ (kV doc pm : Value) (an : Option Addr) (cdv ct : Value) (us : List Value), us.length = (["text"] : List Str).length → bindArgs (PySem.W.fnOf "lines_of" "lines_of" (defArgs s_lines_of) (defBody s_lines_of) (defScope s_lines_of) .none kV doc pm an cdv ct) ⟨us, []⟩ = pure ((["text"] : List Str).zip us) :=
  fun _ _ _ _ _ _ us hl => match us, hl with | [_], _ => rfl
theorem hb_is_name : ∀ (kV doc pm : Value) (an : Option Addr) (cdv ct : Value) (us : List Value), us.length = (["word"] : List Str).length → bindArgs (PySem.W.fnOf "is_name" "is_name" (defArgs s_is_name) (defBody s_is_name) (defScope s_is_name) .none kV doc pm an cdv ct) ⟨us, []⟩ = pure ((["word"] : List Str).zip us) :=
  fun _ _ _ _ _ _ us hl => match us, hl with | [_], _ => rfl
theorem hb_is_number : ∀ (kV doc pm : Value) (an : Option Addr) (cdv ct : Value) (us : List Value), us.length = (["word"] : List Str).length → bindArgs (PySem.W.fnOf "is_number" "is_number" (defArgs s_is_number) (defBody s_is_number) (defScope s_is_number) .none kV doc pm an cdv ct) ⟨us, []⟩ = pure ((["word"] : List Str).zip us) :=
  fun _ _ _ _ _ _ us hl => match us, hl with | [_], _ => rfl
theorem hb_Line___init__ : ∀ (kV doc pm : Value) (an : Option Addr) (cdv ct : Value) (us : List Value), us.length = (["self", "number", "row"] : List Str).length → bindArgs (PySem.W.fnOf "__init__" "Line.__init__" (defArgs s_Line___init__) (defBody s_Line___init__) (defScope s_Line___init__) .none kV doc pm an cdv ct) ⟨us, []⟩ = pure ((["self", "number", "row"] : List Str).zip us) :=
  fun _ _ _ _ _ _ us hl => match us, hl with | [_, _, _], _ => rfl
theorem hb_Line_has_more : ∀ (kV doc pm : Value) (an : Option Addr) (cdv ct : Value) (us : List Value), us.length = (["self"] : List Str).length → bindArgs (PySem.W.fnOf "has_more" "Line.has_more" (defArgs s_Line_has_more) (defBody s_Line_has_more) (defScope s_Line_has_more) .none kV doc pm an cdv ct) ⟨us, []⟩ = pure ((["self"] : List Str).zip us) :=
  fun _ _ _ _ _ _ us hl => match us, hl with | [_], _ => rfl
theorem hb_Line_due : ∀ (kV doc pm : Value) (an : Option Addr) (cdv ct : Value) (us : List Value), us.length = (["self"] : List Str).length → bindArgs (PySem.W.fnOf "due" "Line.due" (defArgs s_Line_due) (defBody s_Line_due) (defScope s_Line_due) .none kV doc pm an cdv ct) ⟨us, []⟩ = pure ((["self"] : List Str).zip us) :=
  fun _ _ _ _ _ _ us hl => match us, hl with | [_], _ => rfl
theorem hb_Line_step : ∀ (kV doc pm : Value) (an : Option Addr) (cdv ct : Value) (us : List Value), us.length = (["self"] : List Str).length → bindArgs (PySem.W.fnOf "step" "Line.step" (defArgs s_Line_step) (defBody s_Line_step) (defScope s_Line_step) .none kV doc pm an cdv ct) ⟨us, []⟩ = pure ((["self"] : List Str).zip us) :=
  fun _ _ _ _ _ _ us hl => match us, hl with | [_], _ => rfl
theorem hb_Line_read_choice : ∀ (kV doc pm : Value) (an : Option Addr) (cdv ct : Value) (us : List Value), us.length = (["self", "choices"] : List Str).length → bindArgs (PySem.W.fnOf "read_choice" "Line.read_choice" (defArgs s_Line_read_choice) (defBody s_Line_read_choice) (defScope s_Line_read_choice) .none kV doc pm an cdv ct) ⟨us, []⟩ = pure ((["self", "choices"] : List Str).zip us) :=
  fun _ _ _ _ _ _ us hl => match us, hl with | [_, _], _ => rfl
theorem hb_Line_read_number : ∀ (kV doc pm : Value) (an : Option Addr) (cdv ct : Value) (us : List Value), us.length = (["self", "least", "most"] : List Str).length → bindArgs (PySem.W.fnOf "read_number" "Line.read_number" (defArgs s_Line_read_number) (defBody s_Line_read_number) (defScope s_Line_read_number) .none kV doc pm an cdv ct) ⟨us, []⟩ = pure ((["self", "least", "most"] : List Str).zip us) :=
  fun _ _ _ _ _ _ us hl => match us, hl with | [_, _, _], _ => rfl
theorem hb_Line_read_field : ∀ (kV doc pm : Value) (an : Option Addr) (cdv ct : Value) (us : List Value), us.length = (["self", "word", "least", "most"] : List Str).length → bindArgs (PySem.W.fnOf "read_field" "Line.read_field" (defArgs s_Line_read_field) (defBody s_Line_read_field) (defScope s_Line_read_field) .none kV doc pm an cdv ct) ⟨us, []⟩ = pure ((["self", "word", "least", "most"] : List Str).zip us) :=
  fun _ _ _ _ _ _ us hl => match us, hl with | [_, _, _, _], _ => rfl
theorem hb_Line_due_name : ∀ (kV doc pm : Value) (an : Option Addr) (cdv ct : Value) (us : List Value), us.length = (["self"] : List Str).length → bindArgs (PySem.W.fnOf "due_name" "Line.due_name" (defArgs s_Line_due_name) (defBody s_Line_due_name) (defScope s_Line_due_name) .none kV doc pm an cdv ct) ⟨us, []⟩ = pure ((["self"] : List Str).zip us) :=
  fun _ _ _ _ _ _ us hl => match us, hl with | [_], _ => rfl
theorem hb_Line_read_new_name : ∀ (kV doc pm : Value) (an : Option Addr) (cdv ct : Value) (us : List Value), us.length = (["self", "used"] : List Str).length → bindArgs (PySem.W.fnOf "read_new_name" "Line.read_new_name" (defArgs s_Line_read_new_name) (defBody s_Line_read_new_name) (defScope s_Line_read_new_name) .none kV doc pm an cdv ct) ⟨us, []⟩ = pure ((["self", "used"] : List Str).zip us) :=
  fun _ _ _ _ _ _ us hl => match us, hl with | [_, _], _ => rfl
theorem hb_Line_read_known_name : ∀ (T : Addr) (kV doc pm : Value) (an : Option Addr) (cdv ct : Value) (us its : List Value), us.length = 2 → its.length = 1 →
    ∃ k, bindArgs (PySem.W.fnOf "read_known_name" "Line.read_known_name" (defArgs s_Line_read_known_name) (defBody s_Line_read_known_name) (defScope s_Line_read_known_name) (.ref T) kV doc pm an cdv ct) ⟨us, []⟩ = seqItems? (.ref T) >>= k ∧ k (some its.toArray) = pure ((["self", "names", "least"] : List Str).zip (us ++ its.drop 0)) :=
  fun _ _ _ _ _ _ _ us its h1 h2 => match us, its, h1, h2 with | [_, _], [_], _, _ => ⟨_, rfl, rfl⟩
theorem hb_Line_finish : ∀ (kV doc pm : Value) (an : Option Addr) (cdv ct : Value) (us : List Value), us.length = (["self"] : List Str).length → bindArgs (PySem.W.fnOf "finish" "Line.finish" (defArgs s_Line_finish) (defBody s_Line_finish) (defScope s_Line_finish) .none kV doc pm an cdv ct) ⟨us, []⟩ = pure ((["self"] : List Str).zip us) :=
  fun _ _ _ _ _ _ us hl => match us, hl with | [_], _ => rfl
theorem hb_Satellite___init__ : ∀ (kV doc pm : Value) (an : Option Addr) (cdv ct : Value) (us : List Value), us.length = (["self", "name", "store", "battery", "start_level", "reserve", "charge", "settle", "light"] : List Str).length → bindArgs (PySem.W.fnOf "__init__" "Satellite.__init__" (defArgs s_Satellite___init__) (defBody s_Satellite___init__) (defScope s_Satellite___init__) .none kV doc pm an cdv ct) ⟨us, []⟩ = pure ((["self", "name", "store", "battery", "start_level", "reserve", "charge", "settle", "light"] : List Str).zip us) :=
  fun _ _ _ _ _ _ us hl => match us, hl with | [_, _, _, _, _, _, _, _, _], _ => rfl
theorem hb_Station___init__ : ∀ (kV doc pm : Value) (an : Option Addr) (cdv ct : Value) (us : List Value), us.length = (["self", "name", "antennas", "turn"] : List Str).length → bindArgs (PySem.W.fnOf "__init__" "Station.__init__" (defArgs s_Station___init__) (defBody s_Station___init__) (defScope s_Station___init__) .none kV doc pm an cdv ct) ⟨us, []⟩ = pure ((["self", "name", "antennas", "turn"] : List Str).zip us) :=
  fun _ _ _ _ _ _ us hl => match us, hl with | [_, _, _, _], _ => rfl
theorem hb_Recording___init__ : ∀ (kV doc pm : Value) (an : Option Addr) (cdv ct : Value) (us : List Value), us.length = (["self", "name", "satellite", "earliest", "latest", "length", "size", "energy", "worth", "rank", "deadline"] : List Str).length → bindArgs (PySem.W.fnOf "__init__" "Recording.__init__" (defArgs s_Recording___init__) (defBody s_Recording___init__) (defScope s_Recording___init__) .none kV doc pm an cdv ct) ⟨us, []⟩ = pure ((["self", "name", "satellite", "earliest", "latest", "length", "size", "energy", "worth", "rank", "deadline"] : List Str).zip us) :=
  fun _ _ _ _ _ _ us hl => match us, hl with | [_, _, _, _, _, _, _, _, _, _, _], _ => rfl
theorem hb_Pass___init__ : ∀ (kV doc pm : Value) (an : Option Addr) (cdv ct : Value) (us : List Value), us.length = (["self", "name", "satellite", "station", "span", "room", "energy", "fee"] : List Str).length → bindArgs (PySem.W.fnOf "__init__" "Pass.__init__" (defArgs s_Pass___init__) (defBody s_Pass___init__) (defScope s_Pass___init__) .none kV doc pm an cdv ct) ⟨us, []⟩ = pure ((["self", "name", "satellite", "station", "span", "room", "energy", "fee"] : List Str).zip us) :=
  fun _ _ _ _ _ _ us hl => match us, hl with | [_, _, _, _, _, _, _, _], _ => rfl
theorem hb_World___init__ : ∀ (kV doc pm : Value) (an : Option Addr) (cdv ct : Value) (us : List Value), us.length = (["self", "text", "horizon", "things"] : List Str).length → bindArgs (PySem.W.fnOf "__init__" "World.__init__" (defArgs s_World___init__) (defBody s_World___init__) (defScope s_World___init__) .none kV doc pm an cdv ct) ⟨us, []⟩ = pure ((["self", "text", "horizon", "things"] : List Str).zip us) :=
  fun _ _ _ _ _ _ us hl => match us, hl with | [_, _, _, _], _ => rfl
theorem hb_World_parse : ∀ (kV doc pm : Value) (an : Option Addr) (cdv ct : Value) (us : List Value), us.length = (["text"] : List Str).length → bindArgs (PySem.W.fnOf "parse" "World.parse" (defArgs s_World_parse) (defBody s_World_parse) (defScope s_World_parse) .none kV doc pm an cdv ct) ⟨us, []⟩ = pure ((["text"] : List Str).zip us) :=
  fun _ _ _ _ _ _ us hl => match us, hl with | [_], _ => rfl
section
variable {P : Program} {w : World} {K : PySem.W.Frag} {mg : Str → Option Value} {base : Heap} {CL CS CT CR CP CW aS aR fS fT fR fP : Addr}
theorem prog_parse (T : TxtW K mg CL CS CT CR CP CW aS aR fS fT fR fP) (F : PF K mg CL CS CT CR CP CW) : SDef P w K mg base CX0 7 CW "parse" ["text"] (spParse K CS CT CR CP CW) := by
  have L := T.L
  have B := L.B
  have D_init : MDef P w K mg base CX0 1 CL "__init__" _ [] _ := d_Line_init L F.p_Line___init__
  have D_has_more : MDef P w K mg base CX0 1 CL "has_more" _ [] _ := d_has_more L F.p_Line_has_more
  have D_due : MDef P w K mg base CX0 2 CL "due" _ [] _ := d_due L D_has_more F.p_Line_due
  have D_step : MDef P w K mg base CX0 1 CL "step" _ [] _ := d_step L F.p_Line_step
  have D_choice : MDef P w K mg base CX0 3 CL "read_choice" _ [] _ := d_read_choice L D_due D_step F.p_Line_read_choice
  have D_isnum : DefOk P w K mg base CX0 1 "is_number" _ _ := d_is_number L F.p_is_number
  have D_number : MDef P w K mg base CX0 3 CL "read_number" _ [] _ := d_read_number L D_isnum D_due D_step F.p_Line_read_number
  have D_field : MDef P w K mg base CX0 4 CL "read_field" _ [] _ := d_read_field L D_choice D_number F.p_Line_read_field
  have D_isname : DefOk P w K mg base CX0 1 "is_name" _ _ := d_is_name L F.p_is_name
  have D_due_name : MDef P w K mg base CX0 3 CL "due_name" _ [] _ := d_due_name L D_isname D_due F.p_Line_due_name
  have D_new : MDef P w K mg base CX0 4 CL "read_new_name" _ [] _ := d_read_new_name L D_due_name D_step F.p_Line_read_new_name
  have D_known : MDef P w K mg base CX0 4 CL "read_known_name" _ _ _ := d_read_known_name L D_due_name D_step F.p_Line_read_known_name
  have D_finish : MDef P w K mg base CX0 3 CL "finish" _ [] _ := d_finish L D_has_more F.p_Line_finish
  have D_lines : DefOk P w K mg base CX0 3 "lines_of" _ _ := d_lines_of L D_init F.p_lines_of
  have D_names : DefOk P w K mg base CX0 1 "names_of" _ _ := d_names_of B F.p_names_of
  have D_light : DefOk P w K mg base CX0 4 "read_light" _ _ := d_read_light T D_has_more D_number F.p_read_light
  have D1 : DefOk P w K mg base CX0 5 "read_satellite" _ _ := d_read_satellite T D_names D_new D_field D_choice D_light (dI_Satellite T F.p_Satellite___init__) F.p_read_satellite
  have D2 : DefOk P w K mg base CX0 5 "read_station" _ _ := d_read_station T D_names D_new D_field (dI_Station T F.p_Station___init__) F.p_read_station
  have D3 : DefOk P w K mg base CX0 5 "read_recording" _ _ := d_read_recording T D_names D_new D_field D_choice D_known (dI_Recording T F.p_Recording___init__) F.p_read_recording
  have D4 : DefOk P w K mg base CX0 5 "read_pass" _ _ := d_read_pass T D_names D_new D_field D_choice D_known (dI_Pass T F.p_Pass___init__) F.p_read_pass
  have D_most : DefOk P w K mg base CX0 1 "most_things" _ _ := d_most_things T F.p_most_things
  have D_sort : DefOk P w K mg base CX0 3 "read_sort" _ _ := d_read_sort T D_due D_step D_most F.p_read_sort
  have D_things : DefOk P w K mg base CX0 6 "read_things" _ _ := d_read_things T D_sort D1 D2 D3 D4
    (at_ne F.p_read_station F.p_read_satellite T.r_station T.r_satellite (by decide)) (at_ne F.p_read_recording F.p_read_satellite T.r_recording T.r_satellite (by decide)) (at_ne F.p_read_recording F.p_read_station T.r_recording T.r_station (by decide))
    (at_ne F.p_read_pass F.p_read_satellite T.r_pass T.r_satellite (by decide)) (at_ne F.p_read_pass F.p_read_station T.r_pass T.r_station (by decide)) (at_ne F.p_read_pass F.p_read_recording T.r_pass T.r_recording (by decide)) D_finish F.p_read_things
  exact d_parse T D_lines D_field D_finish D_things (dI_World T F.p_World___init__) F.p_World_parse
end
end DP
namespace DP
open PySem PySem.Spec PyProof.Rows L2
section
variable {P : Program} {w : World} {K : PySem.W.Frag} {mg : Str → Option Value} {base : Heap}
structure LawF (K : PySem.W.Frag) (mg : Str → Option Value) : Prop where
  (a1 : At K mg "_law_cell" s__law_cell ["script", "k"]) (a2 : At K mg "_law_draws" s__law_draws ["cell", "count"]) (a3 : At K mg "_law_stream" s__law_stream ["script", "first", "count"]) (a4 : At K mg "_law_next" s__law_next ["stream", "many"]) (a5 : At K mg "_law_word" s__law_word ["stream", "index"]) (a6 : At K mg "_law_satellite" s__law_satellite ["stream", "index", "horizon"]) (a7 : At K mg "_law_recording" s__law_recording ["stream", "index", "satellites", "horizon"]) (a8 : At K mg "_law_pass" s__law_pass ["stream", "index", "satellites", "stations", "horizon"]) (a9 : At K mg "_law_world" s__law_world ["script"]) (b1 : At K mg "_law_lines" s__law_lines ["world"]) (b2 : At K mg "_law_text" s__law_text ["world"]) (b4 : At K mg "_law_is_integer" s__law_is_integer ["actual"]) (b5 : At K mg "_law_same" s__law_same ["actual", "expected"])
theorem LawF.stream (B : Bt mg) (L : LawF K mg) : DefOk P w K mg base CX0 2 "_law_stream" ["script", "first", "count"] (spStream K) := d_stream (d_stream0 B (d_cell B L.a1) (d_draws B L.a2) L.a3)
theorem LawF.next (B : Bt mg) (L : LawF K mg) : DefOk P w K mg base CX0 1 "_law_next" ["stream", "many"] spNext := d_next (d_next0 B L.a4)
theorem LawF.word (B : Bt mg) (L : LawF K mg) : DefOk P w K mg base CX0 2 "_law_word" ["stream", "index"] spWord := d_word B (L.next B) L.a5
theorem LawF.world (B : Bt mg) (L : LawF K mg) : DefOk P w K mg base CX0 4 "_law_world" ["script"] (spWorld K) :=
  d_world B (L.stream B) (L.next B) (L.word B) (d_gsat B (L.next B) (L.word B) L.a6) (d_grec B (L.next B) (L.word B) L.a7) (d_gpas B (L.next B) (L.word B) L.a8) L.a9
theorem LawF.text (B : Bt mg) (L : LawF K mg) : DefOk P w K mg base CX0 2 "_law_text" ["world"] (spLawText K) := d_law_text B (d_law_lines B L.b1) L.b2
theorem LawF.same (B : Bt mg) (L : LawF K mg) : DefOk P w K mg base CX0 9 "_law_same" ["actual", "expected"] (spSame K 8) := d_same B (d_is_integer B L.b4) L.b5 8
end
end DP
namespace DP
open PySem PySem.Spec PyProof.Rows L2
theorem the_law {P : Program} {w : World} {K : PySem.W.Frag} {mg : Str → Option Value} {base : Heap} {CL CS CT CR CP CW aS aR fS fT fR fP CO : Addr} (T : TxtW K mg CL CS CT CR CP CW aS aR fS fT fR fP) (F : PF K mg CL CS CT CR CP CW)
    (a1 : At K mg "_law_cell" s__law_cell ["script", "k"]) (a2 : At K mg "_law_draws" s__law_draws ["cell", "count"]) (a3 : At K mg "_law_stream" s__law_stream ["script", "first", "count"]) (a4 : At K mg "_law_next" s__law_next ["stream", "many"]) (a5 : At K mg "_law_word" s__law_word ["stream", "index"]) (a6 : At K mg "_law_satellite" s__law_satellite ["stream", "index", "horizon"]) (a7 : At K mg "_law_recording" s__law_recording ["stream", "index", "satellites", "horizon"]) (a8 : At K mg "_law_pass" s__law_pass ["stream", "index", "satellites", "stations", "horizon"]) (a9 : At K mg "_law_world" s__law_world ["script"]) (b1 : At K mg "_law_lines" s__law_lines ["world"]) (b2 : At K mg "_law_text" s__law_text ["world"]) (b4 : At K mg "_law_is_integer" s__law_is_integer ["actual"]) (b5 : At K mg "_law_same" s__law_same ["actual", "expected"]) (l1 : At K mg "_law_options" s__law_options ["world", "number"]) (l2 : At K mg "_law_case" s__law_case ["script", "first", "world", "open_too"]) (h3 : At K mg "is_tuple_of" s_is_tuple_of ["thing", "many"]) (h4 : At K mg "is_made_entry" s_is_made_entry ["world", "entry"]) (h5 : At K mg "is_taken_entry" s_is_taken_entry ["entry"]) (h6 : At K mg "check_case" s_check_case ["world", "case"]) (h7 : At K mg "check_plan" s_check_plan ["world", "plan"]) (h8 : At K mg "is_integer" s_is_integer ["thing"])
    (n1 : At K mg "is_option" s_is_option ["world", "number", "pair"]) (n2 : At K mg "options" s_options ["world", "number"]) (n3 : At K mg "recording_choices" s_recording_choices ["world", "r"]) (n4 : At K mg "pass_choices" s_pass_choices ["world", "p"]) (o1 : At K mg "fees_of" s_fees_of ["world", "taken"]) (o2 : At K mg "base_of" s_base_of ["world"]) (o3 : At K mg "recording_weight" s_recording_weight ["world", "r"]) (o4 : At K mg "weight_of" s_weight_of ["world", "plan"]) (o5 : At K mg "entries_of" s_entries_of ["case"]) (g1 : MAt K CO "__init__" "Goal.__init__" s_Goal___init__ ["self", "world", "plan", "lost"]) (g3 : At K mg "changes" s_changes ["goal", "plan"]) (g4 : At K mg "changes_of" s_changes_of ["old", "entry"]) (g5 : At K mg "goal_weight" s_goal_weight ["world", "goal", "plan"]) (g6 : At K mg "recording_worth" s_recording_worth ["world", "goal", "number", "entry"]) (g7 : At K mg "pass_worth" s_pass_worth ["world", "goal", "number", "entry"]) (g8 : At K mg "recording_entries" s_recording_entries ["world", "case", "number"]) (g9 : At K mg "pass_entries" s_pass_entries ["world", "case", "number"])
    (m1 : At K mg "_law_weight" s__law_weight ["world", "plan"]) (z1 : At K mg "law" s_law ["script"]) (TO : TxtO mg) (TG : TxtG K mg CO) (BS : mg "sorted" = none) (BE : mg "set" = none) : DefOk P w K mg base CX0 10 "law" ["script"] (spLaw K) := by
  have B := T.L.B
  have L : LawF K mg := ⟨a1, a2, a3, a4, a5, a6, a7, a8, a9, b1, b2, b4, b5⟩
  have D_cell : DefOk P w K mg base CX0 1 "_law_cell" _ _ := d_cell B a1
  have D_tup : DefOk P w K mg base CX0 1 "is_tuple_of" _ _ := d_is_tuple_of B h3
  have D_check : DefOk P w K mg base CX0 3 "check_case" _ _ := d_check_case T D_tup (d_is_made_entry T TO D_tup h4) (d_is_taken_entry B TO h5) h6
  have D_checkp : DefOk P w K mg base CX0 4 "check_plan" _ _ := d_check_plan T TO D_check h7
  have D_isint : DefOk P w K mg base CX0 1 "is_integer" _ _ := d_isint B h8
  have D_rw : DefOk P w K mg base CX0 2 "recording_weight" _ _ := d_recording_weight T (d_base_of T o2) o3
  have D_weight : DefOk P w K mg base CX0 3 "weight_of" _ _ := d_weight_of T D_rw (d_fees_of T o1) o4
  have D_chof : DefOk P w K mg base CX0 1 "changes_of" _ _ := d_changes_of g4
  have D_changes : DefOk P w K mg base CX0 2 "changes" _ _ := d_changes B TG (d_entries o5) D_chof g3
  have DI_G : MDef P w K mg base CX0 5 CO "__init__" _ _ (spGoalI K CS CT CR CP CW CO) := dI_Goal T TG BS BE D_checkp D_isint g1
  have D_options : DefOk P w K mg base CX0 2 "options" _ _ := d_options T (d_is_option T n1) n2
  have D_lopt : DefOk P w K mg base CX0 1 "_law_options" _ _ := d_law_options B l1
  exact d_law T TG D_cell (L.world B) (L.text B) D_lopt (d_case B (L.stream B) (L.next B) D_lopt l2) (L.same B) (d_law_weight B m1) (d_rec_worth TG D_rw D_chof g6) (d_pas_worth T TG D_chof g7) (d_rec_ents TO (d_rec_cho B D_options n3) g8) (d_pas_ents TO (d_pas_cho T n4) g9) (d_goal_weight TG D_weight D_changes g5) DI_G (prog_parse T F) z1
theorem hb__law_cell : ∀ (kV doc pm : Value) (an : Option Addr) (cdv ct : Value) (us : List Value), us.length = (["script", "k"] : List Str).length → bindArgs (PySem.W.fnOf "_law_cell" "_law_cell" (defArgs s__law_cell) (defBody s__law_cell) (defScope s__law_cell) .none kV doc pm an cdv ct) ⟨us, []⟩ = pure ((["script", "k"] : List Str).zip us) :=
  fun _ _ _ _ _ _ us hl => match us, hl with | [_, _], _ => rfl
theorem hb__law_draws : ∀ (kV doc pm : Value) (an : Option Addr) (cdv ct : Value) (us : List Value), us.length = (["cell", "count"] : List Str).length → bindArgs (PySem.W.fnOf "_law_draws" "_law_draws" (defArgs s__law_draws) (defBody s__law_draws) (defScope s__law_draws) .none kV doc pm an cdv ct) ⟨us, []⟩ = pure ((["cell", "count"] : List Str).zip us) :=
  fun _ _ _ _ _ _ us hl => match us, hl with | [_, _], _ => rfl
theorem hb__law_stream : ∀ (kV doc pm : Value) (an : Option Addr) (cdv ct : Value) (us : List Value), us.length = (["script", "first", "count"] : List Str).length → bindArgs (PySem.W.fnOf "_law_stream" "_law_stream" (defArgs s__law_stream) (defBody s__law_stream) (defScope s__law_stream) .none kV doc pm an cdv ct) ⟨us, []⟩ = pure ((["script", "first", "count"] : List Str).zip us) :=
  fun _ _ _ _ _ _ us hl => match us, hl with | [_, _, _], _ => rfl
theorem hb__law_next : ∀ (kV doc pm : Value) (an : Option Addr) (cdv ct : Value) (us : List Value), us.length = (["stream", "many"] : List Str).length → bindArgs (PySem.W.fnOf "_law_next" "_law_next" (defArgs s__law_next) (defBody s__law_next) (defScope s__law_next) .none kV doc pm an cdv ct) ⟨us, []⟩ = pure ((["stream", "many"] : List Str).zip us) :=
  fun _ _ _ _ _ _ us hl => match us, hl with | [_, _], _ => rfl
theorem hb__law_word : ∀ (kV doc pm : Value) (an : Option Addr) (cdv ct : Value) (us : List Value), us.length = (["stream", "index"] : List Str).length → bindArgs (PySem.W.fnOf "_law_word" "_law_word" (defArgs s__law_word) (defBody s__law_word) (defScope s__law_word) .none kV doc pm an cdv ct) ⟨us, []⟩ = pure ((["stream", "index"] : List Str).zip us) :=
  fun _ _ _ _ _ _ us hl => match us, hl with | [_, _], _ => rfl
theorem hb__law_satellite : ∀ (kV doc pm : Value) (an : Option Addr) (cdv ct : Value) (us : List Value), us.length = (["stream", "index", "horizon"] : List Str).length → bindArgs (PySem.W.fnOf "_law_satellite" "_law_satellite" (defArgs s__law_satellite) (defBody s__law_satellite) (defScope s__law_satellite) .none kV doc pm an cdv ct) ⟨us, []⟩ = pure ((["stream", "index", "horizon"] : List Str).zip us) :=
  fun _ _ _ _ _ _ us hl => match us, hl with | [_, _, _], _ => rfl
theorem hb__law_recording : ∀ (kV doc pm : Value) (an : Option Addr) (cdv ct : Value) (us : List Value), us.length = (["stream", "index", "satellites", "horizon"] : List Str).length → bindArgs (PySem.W.fnOf "_law_recording" "_law_recording" (defArgs s__law_recording) (defBody s__law_recording) (defScope s__law_recording) .none kV doc pm an cdv ct) ⟨us, []⟩ = pure ((["stream", "index", "satellites", "horizon"] : List Str).zip us) :=
  fun _ _ _ _ _ _ us hl => match us, hl with | [_, _, _, _], _ => rfl
theorem hb__law_pass : ∀ (kV doc pm : Value) (an : Option Addr) (cdv ct : Value) (us : List Value), us.length = (["stream", "index", "satellites", "stations", "horizon"] : List Str).length → bindArgs (PySem.W.fnOf "_law_pass" "_law_pass" (defArgs s__law_pass) (defBody s__law_pass) (defScope s__law_pass) .none kV doc pm an cdv ct) ⟨us, []⟩ = pure ((["stream", "index", "satellites", "stations", "horizon"] : List Str).zip us) :=
  fun _ _ _ _ _ _ us hl => match us, hl with | [_, _, _, _, _], _ => rfl
theorem hb__law_world : ∀ (kV doc pm : Value) (an : Option Addr) (cdv ct : Value) (us : List Value), us.length = (["script"] : List Str).length → bindArgs (PySem.W.fnOf "_law_world" "_law_world" (defArgs s__law_world) (defBody s__law_world) (defScope s__law_world) .none kV doc pm an cdv ct) ⟨us, []⟩ = pure ((["script"] : List Str).zip us) :=
  fun _ _ _ _ _ _ us hl => match us, hl with | [_], _ => rfl
theorem hb__law_lines : ∀ (kV doc pm : Value) (an : Option Addr) (cdv ct : Value) (us : List Value), us.length = (["world"] : List Str).length → bindArgs (PySem.W.fnOf "_law_lines" "_law_lines" (defArgs s__law_lines) (defBody s__law_lines) (defScope s__law_lines) .none kV doc pm an cdv ct) ⟨us, []⟩ = pure ((["world"] : List Str).zip us) :=
  fun _ _ _ _ _ _ us hl => match us, hl with | [_], _ => rfl
theorem hb__law_text : ∀ (kV doc pm : Value) (an : Option Addr) (cdv ct : Value) (us : List Value), us.length = (["world"] : List Str).length → bindArgs (PySem.W.fnOf "_law_text" "_law_text" (defArgs s__law_text) (defBody s__law_text) (defScope s__law_text) .none kV doc pm an cdv ct) ⟨us, []⟩ = pure ((["world"] : List Str).zip us) :=
  fun _ _ _ _ _ _ us hl => match us, hl with | [_], _ => rfl
theorem hb__law_is_integer : ∀ (kV doc pm : Value) (an : Option Addr) (cdv ct : Value) (us : List Value), us.length = (["actual"] : List Str).length → bindArgs (PySem.W.fnOf "_law_is_integer" "_law_is_integer" (defArgs s__law_is_integer) (defBody s__law_is_integer) (defScope s__law_is_integer) .none kV doc pm an cdv ct) ⟨us, []⟩ = pure ((["actual"] : List Str).zip us) :=
  fun _ _ _ _ _ _ us hl => match us, hl with | [_], _ => rfl
theorem hb__law_same : ∀ (kV doc pm : Value) (an : Option Addr) (cdv ct : Value) (us : List Value), us.length = (["actual", "expected"] : List Str).length → bindArgs (PySem.W.fnOf "_law_same" "_law_same" (defArgs s__law_same) (defBody s__law_same) (defScope s__law_same) .none kV doc pm an cdv ct) ⟨us, []⟩ = pure ((["actual", "expected"] : List Str).zip us) :=
  fun _ _ _ _ _ _ us hl => match us, hl with | [_, _], _ => rfl
theorem hb__law_options : ∀ (kV doc pm : Value) (an : Option Addr) (cdv ct : Value) (us : List Value), us.length = (["world", "number"] : List Str).length → bindArgs (PySem.W.fnOf "_law_options" "_law_options" (defArgs s__law_options) (defBody s__law_options) (defScope s__law_options) .none kV doc pm an cdv ct) ⟨us, []⟩ = pure ((["world", "number"] : List Str).zip us) :=
  fun _ _ _ _ _ _ us hl => match us, hl with | [_, _], _ => rfl
theorem hb__law_case : ∀ (kV doc pm : Value) (an : Option Addr) (cdv ct : Value) (us : List Value), us.length = (["script", "first", "world", "open_too"] : List Str).length → bindArgs (PySem.W.fnOf "_law_case" "_law_case" (defArgs s__law_case) (defBody s__law_case) (defScope s__law_case) .none kV doc pm an cdv ct) ⟨us, []⟩ = pure ((["script", "first", "world", "open_too"] : List Str).zip us) :=
  fun _ _ _ _ _ _ us hl => match us, hl with | [_, _, _, _], _ => rfl
theorem hb_is_tuple_of : ∀ (kV doc pm : Value) (an : Option Addr) (cdv ct : Value) (us : List Value), us.length = (["thing", "many"] : List Str).length → bindArgs (PySem.W.fnOf "is_tuple_of" "is_tuple_of" (defArgs s_is_tuple_of) (defBody s_is_tuple_of) (defScope s_is_tuple_of) .none kV doc pm an cdv ct) ⟨us, []⟩ = pure ((["thing", "many"] : List Str).zip us) :=
  fun _ _ _ _ _ _ us hl => match us, hl with | [_, _], _ => rfl
theorem hb_is_made_entry : ∀ (kV doc pm : Value) (an : Option Addr) (cdv ct : Value) (us : List Value), us.length = (["world", "entry"] : List Str).length → bindArgs (PySem.W.fnOf "is_made_entry" "is_made_entry" (defArgs s_is_made_entry) (defBody s_is_made_entry) (defScope s_is_made_entry) .none kV doc pm an cdv ct) ⟨us, []⟩ = pure ((["world", "entry"] : List Str).zip us) :=
  fun _ _ _ _ _ _ us hl => match us, hl with | [_, _], _ => rfl
theorem hb_is_taken_entry : ∀ (kV doc pm : Value) (an : Option Addr) (cdv ct : Value) (us : List Value), us.length = (["entry"] : List Str).length → bindArgs (PySem.W.fnOf "is_taken_entry" "is_taken_entry" (defArgs s_is_taken_entry) (defBody s_is_taken_entry) (defScope s_is_taken_entry) .none kV doc pm an cdv ct) ⟨us, []⟩ = pure ((["entry"] : List Str).zip us) :=
  fun _ _ _ _ _ _ us hl => match us, hl with | [_], _ => rfl
theorem hb_check_case : ∀ (kV doc pm : Value) (an : Option Addr) (cdv ct : Value) (us : List Value), us.length = (["world", "case"] : List Str).length → bindArgs (PySem.W.fnOf "check_case" "check_case" (defArgs s_check_case) (defBody s_check_case) (defScope s_check_case) .none kV doc pm an cdv ct) ⟨us, []⟩ = pure ((["world", "case"] : List Str).zip us) :=
  fun _ _ _ _ _ _ us hl => match us, hl with | [_, _], _ => rfl
theorem hb_check_plan : ∀ (kV doc pm : Value) (an : Option Addr) (cdv ct : Value) (us : List Value), us.length = (["world", "plan"] : List Str).length → bindArgs (PySem.W.fnOf "check_plan" "check_plan" (defArgs s_check_plan) (defBody s_check_plan) (defScope s_check_plan) .none kV doc pm an cdv ct) ⟨us, []⟩ = pure ((["world", "plan"] : List Str).zip us) :=
  fun _ _ _ _ _ _ us hl => match us, hl with | [_, _], _ => rfl
theorem hb_is_integer : ∀ (kV doc pm : Value) (an : Option Addr) (cdv ct : Value) (us : List Value), us.length = (["thing"] : List Str).length → bindArgs (PySem.W.fnOf "is_integer" "is_integer" (defArgs s_is_integer) (defBody s_is_integer) (defScope s_is_integer) .none kV doc pm an cdv ct) ⟨us, []⟩ = pure ((["thing"] : List Str).zip us) :=
  fun _ _ _ _ _ _ us hl => match us, hl with | [_], _ => rfl
theorem hb_is_option : ∀ (kV doc pm : Value) (an : Option Addr) (cdv ct : Value) (us : List Value), us.length = (["world", "number", "pair"] : List Str).length → bindArgs (PySem.W.fnOf "is_option" "is_option" (defArgs s_is_option) (defBody s_is_option) (defScope s_is_option) .none kV doc pm an cdv ct) ⟨us, []⟩ = pure ((["world", "number", "pair"] : List Str).zip us) :=
  fun _ _ _ _ _ _ us hl => match us, hl with | [_, _, _], _ => rfl
theorem hb_options : ∀ (kV doc pm : Value) (an : Option Addr) (cdv ct : Value) (us : List Value), us.length = (["world", "number"] : List Str).length → bindArgs (PySem.W.fnOf "options" "options" (defArgs s_options) (defBody s_options) (defScope s_options) .none kV doc pm an cdv ct) ⟨us, []⟩ = pure ((["world", "number"] : List Str).zip us) :=
  fun _ _ _ _ _ _ us hl => match us, hl with | [_, _], _ => rfl
theorem hb_recording_choices : ∀ (kV doc pm : Value) (an : Option Addr) (cdv ct : Value) (us : List Value), us.length = (["world", "r"] : List Str).length → bindArgs (PySem.W.fnOf "recording_choices" "recording_choices" (defArgs s_recording_choices) (defBody s_recording_choices) (defScope s_recording_choices) .none kV doc pm an cdv ct) ⟨us, []⟩ = pure ((["world", "r"] : List Str).zip us) :=
  fun _ _ _ _ _ _ us hl => match us, hl with | [_, _], _ => rfl
theorem hb_pass_choices : ∀ (kV doc pm : Value) (an : Option Addr) (cdv ct : Value) (us : List Value), us.length = (["world", "p"] : List Str).length → bindArgs (PySem.W.fnOf "pass_choices" "pass_choices" (defArgs s_pass_choices) (defBody s_pass_choices) (defScope s_pass_choices) .none kV doc pm an cdv ct) ⟨us, []⟩ = pure ((["world", "p"] : List Str).zip us) :=
  fun _ _ _ _ _ _ us hl => match us, hl with | [_, _], _ => rfl
theorem hb_fees_of : ∀ (kV doc pm : Value) (an : Option Addr) (cdv ct : Value) (us : List Value), us.length = (["world", "taken"] : List Str).length → bindArgs (PySem.W.fnOf "fees_of" "fees_of" (defArgs s_fees_of) (defBody s_fees_of) (defScope s_fees_of) .none kV doc pm an cdv ct) ⟨us, []⟩ = pure ((["world", "taken"] : List Str).zip us) :=
  fun _ _ _ _ _ _ us hl => match us, hl with | [_, _], _ => rfl
theorem hb_base_of : ∀ (kV doc pm : Value) (an : Option Addr) (cdv ct : Value) (us : List Value), us.length = (["world"] : List Str).length → bindArgs (PySem.W.fnOf "base_of" "base_of" (defArgs s_base_of) (defBody s_base_of) (defScope s_base_of) .none kV doc pm an cdv ct) ⟨us, []⟩ = pure ((["world"] : List Str).zip us) :=
  fun _ _ _ _ _ _ us hl => match us, hl with | [_], _ => rfl
theorem hb_recording_weight : ∀ (kV doc pm : Value) (an : Option Addr) (cdv ct : Value) (us : List Value), us.length = (["world", "r"] : List Str).length → bindArgs (PySem.W.fnOf "recording_weight" "recording_weight" (defArgs s_recording_weight) (defBody s_recording_weight) (defScope s_recording_weight) .none kV doc pm an cdv ct) ⟨us, []⟩ = pure ((["world", "r"] : List Str).zip us) :=
  fun _ _ _ _ _ _ us hl => match us, hl with | [_, _], _ => rfl
theorem hb_weight_of : ∀ (kV doc pm : Value) (an : Option Addr) (cdv ct : Value) (us : List Value), us.length = (["world", "plan"] : List Str).length → bindArgs (PySem.W.fnOf "weight_of" "weight_of" (defArgs s_weight_of) (defBody s_weight_of) (defScope s_weight_of) .none kV doc pm an cdv ct) ⟨us, []⟩ = pure ((["world", "plan"] : List Str).zip us) :=
  fun _ _ _ _ _ _ us hl => match us, hl with | [_, _], _ => rfl
theorem hb_entries_of : ∀ (kV doc pm : Value) (an : Option Addr) (cdv ct : Value) (us : List Value), us.length = (["case"] : List Str).length → bindArgs (PySem.W.fnOf "entries_of" "entries_of" (defArgs s_entries_of) (defBody s_entries_of) (defScope s_entries_of) .none kV doc pm an cdv ct) ⟨us, []⟩ = pure ((["case"] : List Str).zip us) :=
  fun _ _ _ _ _ _ us hl => match us, hl with | [_], _ => rfl
theorem hb_Goal___init__ : ∀ (kV doc pm : Value) (an : Option Addr) (cdv ct : Value) (us : List Value), us.length = (["self", "world", "plan", "lost"] : List Str).length → bindArgs (PySem.W.fnOf "__init__" "Goal.__init__" (defArgs s_Goal___init__) (defBody s_Goal___init__) (defScope s_Goal___init__) .none kV doc pm an cdv ct) ⟨us, []⟩ = pure ((["self", "world", "plan", "lost"] : List Str).zip us) :=
  fun _ _ _ _ _ _ us hl => match us, hl with | [_, _, _, _], _ => rfl
theorem hb_changes : ∀ (kV doc pm : Value) (an : Option Addr) (cdv ct : Value) (us : List Value), us.length = (["goal", "plan"] : List Str).length → bindArgs (PySem.W.fnOf "changes" "changes" (defArgs s_changes) (defBody s_changes) (defScope s_changes) .none kV doc pm an cdv ct) ⟨us, []⟩ = pure ((["goal", "plan"] : List Str).zip us) :=
  fun _ _ _ _ _ _ us hl => match us, hl with | [_, _], _ => rfl
theorem hb_changes_of : ∀ (kV doc pm : Value) (an : Option Addr) (cdv ct : Value) (us : List Value), us.length = (["old", "entry"] : List Str).length → bindArgs (PySem.W.fnOf "changes_of" "changes_of" (defArgs s_changes_of) (defBody s_changes_of) (defScope s_changes_of) .none kV doc pm an cdv ct) ⟨us, []⟩ = pure ((["old", "entry"] : List Str).zip us) :=
  fun _ _ _ _ _ _ us hl => match us, hl with | [_, _], _ => rfl
theorem hb_goal_weight : ∀ (kV doc pm : Value) (an : Option Addr) (cdv ct : Value) (us : List Value), us.length = (["world", "goal", "plan"] : List Str).length → bindArgs (PySem.W.fnOf "goal_weight" "goal_weight" (defArgs s_goal_weight) (defBody s_goal_weight) (defScope s_goal_weight) .none kV doc pm an cdv ct) ⟨us, []⟩ = pure ((["world", "goal", "plan"] : List Str).zip us) :=
  fun _ _ _ _ _ _ us hl => match us, hl with | [_, _, _], _ => rfl
theorem hb_recording_worth : ∀ (kV doc pm : Value) (an : Option Addr) (cdv ct : Value) (us : List Value), us.length = (["world", "goal", "number", "entry"] : List Str).length → bindArgs (PySem.W.fnOf "recording_worth" "recording_worth" (defArgs s_recording_worth) (defBody s_recording_worth) (defScope s_recording_worth) .none kV doc pm an cdv ct) ⟨us, []⟩ = pure ((["world", "goal", "number", "entry"] : List Str).zip us) :=
  fun _ _ _ _ _ _ us hl => match us, hl with | [_, _, _, _], _ => rfl
theorem hb_pass_worth : ∀ (kV doc pm : Value) (an : Option Addr) (cdv ct : Value) (us : List Value), us.length = (["world", "goal", "number", "entry"] : List Str).length → bindArgs (PySem.W.fnOf "pass_worth" "pass_worth" (defArgs s_pass_worth) (defBody s_pass_worth) (defScope s_pass_worth) .none kV doc pm an cdv ct) ⟨us, []⟩ = pure ((["world", "goal", "number", "entry"] : List Str).zip us) :=
  fun _ _ _ _ _ _ us hl => match us, hl with | [_, _, _, _], _ => rfl
theorem hb_recording_entries : ∀ (kV doc pm : Value) (an : Option Addr) (cdv ct : Value) (us : List Value), us.length = (["world", "case", "number"] : List Str).length → bindArgs (PySem.W.fnOf "recording_entries" "recording_entries" (defArgs s_recording_entries) (defBody s_recording_entries) (defScope s_recording_entries) .none kV doc pm an cdv ct) ⟨us, []⟩ = pure ((["world", "case", "number"] : List Str).zip us) :=
  fun _ _ _ _ _ _ us hl => match us, hl with | [_, _, _], _ => rfl
theorem hb_pass_entries : ∀ (kV doc pm : Value) (an : Option Addr) (cdv ct : Value) (us : List Value), us.length = (["world", "case", "number"] : List Str).length → bindArgs (PySem.W.fnOf "pass_entries" "pass_entries" (defArgs s_pass_entries) (defBody s_pass_entries) (defScope s_pass_entries) .none kV doc pm an cdv ct) ⟨us, []⟩ = pure ((["world", "case", "number"] : List Str).zip us) :=
  fun _ _ _ _ _ _ us hl => match us, hl with | [_, _, _], _ => rfl
theorem hb__law_weight : ∀ (kV doc pm : Value) (an : Option Addr) (cdv ct : Value) (us : List Value), us.length = (["world", "plan"] : List Str).length → bindArgs (PySem.W.fnOf "_law_weight" "_law_weight" (defArgs s__law_weight) (defBody s__law_weight) (defScope s__law_weight) .none kV doc pm an cdv ct) ⟨us, []⟩ = pure ((["world", "plan"] : List Str).zip us) :=
  fun _ _ _ _ _ _ us hl => match us, hl with | [_, _], _ => rfl
theorem hb_law : ∀ (kV doc pm : Value) (an : Option Addr) (cdv ct : Value) (us : List Value), us.length = (["script"] : List Str).length → bindArgs (PySem.W.fnOf "law" "law" (defArgs s_law) (defBody s_law) (defScope s_law) .none kV doc pm an cdv ct) ⟨us, []⟩ = pure ((["script"] : List Str).zip us) :=
  fun _ _ _ _ _ _ us hl => match us, hl with | [_], _ => rfl
theorem fin {l : PySem.W.OpenLaw} {w : World} {K : PySem.W.Frag} {mg : Str → Option Value} {fa CL CS CT CR CP CW aS aR fS fT fR fP CO : Addr} (hfa : mg "law" = some (.ref fa)) (T : TxtW K mg CL CS CT CR CP CW aS aR fS fT fR fP) (F : PF K mg CL CS CT CR CP CW)
    (a__law_cell : At K mg "_law_cell" s__law_cell ["script", "k"])
    (a__law_draws : At K mg "_law_draws" s__law_draws ["cell", "count"])
    (a__law_stream : At K mg "_law_stream" s__law_stream ["script", "first", "count"])
    (a__law_next : At K mg "_law_next" s__law_next ["stream", "many"])
    (a__law_word : At K mg "_law_word" s__law_word ["stream", "index"])
    (a__law_satellite : At K mg "_law_satellite" s__law_satellite ["stream", "index", "horizon"])
    (a__law_recording : At K mg "_law_recording" s__law_recording ["stream", "index", "satellites", "horizon"])
    (a__law_pass : At K mg "_law_pass" s__law_pass ["stream", "index", "satellites", "stations", "horizon"])
    (a__law_world : At K mg "_law_world" s__law_world ["script"])
    (a__law_lines : At K mg "_law_lines" s__law_lines ["world"])
    (a__law_text : At K mg "_law_text" s__law_text ["world"])
    (a__law_is_integer : At K mg "_law_is_integer" s__law_is_integer ["actual"])
    (a__law_same : At K mg "_law_same" s__law_same ["actual", "expected"])
    (a__law_options : At K mg "_law_options" s__law_options ["world", "number"])
    (a__law_case : At K mg "_law_case" s__law_case ["script", "first", "world", "open_too"])
    (a_is_tuple_of : At K mg "is_tuple_of" s_is_tuple_of ["thing", "many"])
    (a_is_made_entry : At K mg "is_made_entry" s_is_made_entry ["world", "entry"])
    (a_is_taken_entry : At K mg "is_taken_entry" s_is_taken_entry ["entry"])
    (a_check_case : At K mg "check_case" s_check_case ["world", "case"])
    (a_check_plan : At K mg "check_plan" s_check_plan ["world", "plan"])
    (a_is_integer : At K mg "is_integer" s_is_integer ["thing"])
    (a_is_option : At K mg "is_option" s_is_option ["world", "number", "pair"])
    (a_options : At K mg "options" s_options ["world", "number"])
    (a_recording_choices : At K mg "recording_choices" s_recording_choices ["world", "r"])
    (a_pass_choices : At K mg "pass_choices" s_pass_choices ["world", "p"])
    (a_fees_of : At K mg "fees_of" s_fees_of ["world", "taken"])
    (a_base_of : At K mg "base_of" s_base_of ["world"])
    (a_recording_weight : At K mg "recording_weight" s_recording_weight ["world", "r"])
    (a_weight_of : At K mg "weight_of" s_weight_of ["world", "plan"])
    (a_entries_of : At K mg "entries_of" s_entries_of ["case"])
    (a_Goal___init__ : MAt K CO "__init__" "Goal.__init__" s_Goal___init__ ["self", "world", "plan", "lost"])
    (a_changes : At K mg "changes" s_changes ["goal", "plan"])
    (a_changes_of : At K mg "changes_of" s_changes_of ["old", "entry"])
    (a_goal_weight : At K mg "goal_weight" s_goal_weight ["world", "goal", "plan"])
    (a_recording_worth : At K mg "recording_worth" s_recording_worth ["world", "goal", "number", "entry"])
    (a_pass_worth : At K mg "pass_worth" s_pass_worth ["world", "goal", "number", "entry"])
    (a_recording_entries : At K mg "recording_entries" s_recording_entries ["world", "case", "number"])
    (a_pass_entries : At K mg "pass_entries" s_pass_entries ["world", "case", "number"])
    (a__law_weight : At K mg "_law_weight" s__law_weight ["world", "plan"])
    (a_law : At K mg "law" s_law ["script"])
    (TO : TxtO mg)
    (TG : TxtG K mg CO)
    (BS : mg "sorted" = none)
    (BE : mg "set" = none)
    : ∃ fd : FuncData, (∀ (s : Shared) (v : Value), BindsTo s fd ⟨[v], []⟩ [("script", v)]) ∧ ∀ base : Heap, K.In base → base.Ns mainGlobals mg → FnOk l.prog w K mg base CX0 10 fa fd ["script"] (spLaw K) :=
  a_law.end_ hfa (fun base => the_law T F a__law_cell a__law_draws a__law_stream a__law_next a__law_word a__law_satellite a__law_recording a__law_pass a__law_world a__law_lines a__law_text a__law_is_integer a__law_same a__law_options a__law_case a_is_tuple_of a_is_made_entry a_is_taken_entry a_check_case a_check_plan a_is_integer a_is_option a_options a_recording_choices a_pass_choices a_fees_of a_base_of a_recording_weight a_weight_of a_entries_of a_Goal___init__ a_changes a_changes_of a_goal_weight a_recording_worth a_pass_worth a_recording_entries a_pass_entries a__law_weight a_law TO TG BS BE) (fun _ _ _ _ _ _ _ => rfl)
end DP
open PySem PySem.W PyProof.Rows
set_option maxHeartbeats 0 in
theorem PySem.Challenge.cw_downpass_k71_worths_of_entries_holds : PySem.Challenge.rw_downpass_k71_worths_of_entries.Holds := by
  w_on; o_law; k_head; (case hw => w_witness2)
  k_fill
  refine L2.walk_of (l := PySem.Challenge.rw_downpass_k71_worths_of_entries) (n := 63) (k := 10) (x := "script") (CX := fun _ => L2.CX0) (sp := fun w => DP.spLaw _) rfl (by decide) rfl ⟨rfl, by decide, by decide⟩ (fun w h Y => PySem.W.kIn_of Y) ?F (fun _ _ a ns hl _ hS => ⟨a, ns, rfl, hS, fun _ => rfl⟩) (fun _ _ _ _ _ h => h)
  case F =>
    intro w mg fa h KX G hmg
    refine' DP.fin hmg ⟨⟨⟨?z_len, ?z_range, ?z_int, ?z_abs, ?z_isinstance, ?z_bool, ?z_str, ?z_tuple, ?z_list, ?z_sum, ?z_max, ?z_min, ?z_all, ?z_enumerate, ?z_zip⟩, ?c_Line, ?n_Line_number, ?n_Line_words, ?n_Line_read, ?n_Line_column, ?g_LETTERS, ?g_DIGITS, ?g_MOST_NAME, ?g_MOST_DIGITS⟩, ?c_Satellite, ?c_Station, ?c_Recording, ?c_Pass, ?c_World, ?n_Satellite_name, ?n_Satellite_store, ?n_Satellite_battery, ?n_Satellite_start_level, ?n_Satellite_reserve, ?n_Satellite_charge, ?n_Satellite_settle, ?n_Satellite_light, ?n_Station_name, ?n_Station_antennas, ?n_Station_turn, ?n_Recording_name, ?n_Recording_satellite, ?n_Recording_earliest, ?n_Recording_latest, ?n_Recording_length, ?n_Recording_size, ?n_Recording_energy, ?n_Recording_worth, ?n_Recording_rank, ?n_Recording_deadline, ?n_Pass_name, ?n_Pass_satellite, ?n_Pass_station, ?n_Pass_span, ?n_Pass_room, ?n_Pass_energy, ?n_Pass_fee, ?n_World_text, ?n_World_horizon, ?n_World_satellites, ?n_World_stations, ?n_World_recordings, ?n_World_passes, ?g_SATELLITES, ?g_STATIONS, ?g_RECORDINGS, ?g_PASSES, ?g_MOST_UNITS, ?g_MOST_CHARGE, ?g_MOST_DELAY, ?g_MOST_ANTENNAS, ?g_MOST_WORTH, ?g_MOST_RANK, ?g_MOST_FEE, ?g_SORTS, ?t_SORTS, ?k_SORTS, ?g_READERS, ?t_READERS, ?r_satellite, ?r_station, ?r_recording, ?r_pass, ?rdW, ?v_MOST_HORIZON, ?v_MOST_SATELLITES, ?v_MOST_STATIONS, ?v_MOST_RECORDINGS, ?v_MOST_PASSES, ?v_MOST_SHIFT⟩ ⟨?p_names_of, ?p_read_light, ?p_read_satellite, ?p_read_station, ?p_read_recording, ?p_read_pass, ?p_most_things, ?p_read_sort, ?p_read_things, ?p_lines_of, ?p_is_name, ?p_is_number, ?p_Line___init__, ?p_Line_has_more, ?p_Line_due, ?p_Line_step, ?p_Line_read_choice, ?p_Line_read_number, ?p_Line_read_field, ?p_Line_due_name, ?p_Line_read_new_name, ?p_Line_read_known_name, ?p_Line_finish, ?p_Satellite___init__, ?p_Station___init__, ?p_Recording___init__, ?p_Pass___init__, ?p_World___init__, ?p_World_parse⟩ ?a__law_cell ?a__law_draws ?a__law_stream ?a__law_next ?a__law_word ?a__law_satellite ?a__law_recording ?a__law_pass ?a__law_world ?a__law_lines ?a__law_text ?a__law_is_integer ?a__law_same ?a__law_options ?a__law_case ?a_is_tuple_of ?a_is_made_entry ?a_is_taken_entry ?a_check_case ?a_check_plan ?a_is_integer ?a_is_option ?a_options ?a_recording_choices ?a_pass_choices ?a_fees_of ?a_base_of ?a_recording_weight ?a_weight_of ?a_entries_of ?a_Goal___init__ ?a_changes ?a_changes_of ?a_goal_weight ?a_recording_worth ?a_pass_worth ?a_recording_entries ?a_pass_entries ?a__law_weight ?a_law ?TO ?TG ?BS ?BE
    (case c_Line => (refine' DP.cls_mk KX G ?g_u17 ?pg_u17 ?hd_u17 ?po_u17 ?sa_u17 ?mk_u17 ?kp_u17; (case g_u17 => k_is); (case pg_u17 => k_is); (case hd_u17 => k_is); (case po_u17 => k_is); (case sa_u17 => k_is); (case mk_u17 => k_is); (case kp_u17 => k_is)))
    (case c_Satellite => (refine' DP.cls_mk KX G ?g_u18 ?pg_u18 ?hd_u18 ?po_u18 ?sa_u18 ?mk_u18 ?kp_u18; (case g_u18 => k_is); (case pg_u18 => k_is); (case hd_u18 => k_is); (case po_u18 => k_is); (case sa_u18 => k_is); (case mk_u18 => k_is); (case kp_u18 => k_is)))
    (case c_Station => (refine' DP.cls_mk KX G ?g_u19 ?pg_u19 ?hd_u19 ?po_u19 ?sa_u19 ?mk_u19 ?kp_u19; (case g_u19 => k_is); (case pg_u19 => k_is); (case hd_u19 => k_is); (case po_u19 => k_is); (case sa_u19 => k_is); (case mk_u19 => k_is); (case kp_u19 => k_is)))
    (case c_Recording => (refine' DP.cls_mk KX G ?g_u20 ?pg_u20 ?hd_u20 ?po_u20 ?sa_u20 ?mk_u20 ?kp_u20; (case g_u20 => k_is); (case pg_u20 => k_is); (case hd_u20 => k_is); (case po_u20 => k_is); (case sa_u20 => k_is); (case mk_u20 => k_is); (case kp_u20 => k_is)))
    (case c_Pass => (refine' DP.cls_mk KX G ?g_u21 ?pg_u21 ?hd_u21 ?po_u21 ?sa_u21 ?mk_u21 ?kp_u21; (case g_u21 => k_is); (case pg_u21 => k_is); (case hd_u21 => k_is); (case po_u21 => k_is); (case sa_u21 => k_is); (case mk_u21 => k_is); (case kp_u21 => k_is)))
    (case c_World => (refine' DP.cls_mk KX G ?g_u22 ?pg_u22 ?hd_u22 ?po_u22 ?sa_u22 ?mk_u22 ?kp_u22; (case g_u22 => k_is); (case pg_u22 => k_is); (case hd_u22 => k_is); (case po_u22 => k_is); (case sa_u22 => k_is); (case mk_u22 => k_is); (case kp_u22 => k_is)))
    (case TO => (refine' ⟨DP.str_mk KX G ?tp1⟩; (case tp1 => k_is)))
    (case TG => (refine' ⟨DP.cls_mk KX G ?gg0 ?gpg ?ghd ?gpo ?gsa ?gmk ?gkp, ?gn1, ?gn2, ?gn3⟩; (case gg0 => k_is); (case gpg => k_is); (case ghd => k_is); (case gpo => k_is); (case gsa => k_is); (case gmk => k_is); (case gkp => k_is); (case gn1 => (show PySem.W.findIn _ _ _ = some none; k_is)); (case gn2 => (show PySem.W.findIn _ _ _ = some none; k_is)); (case gn3 => (show PySem.W.findIn _ _ _ = some none; k_is))))
    (case BS => (refine' PySem.W.mg_none_of KX G ?bsq; (case bsq => k_is)))
    (case BE => (refine' PySem.W.mg_none_of KX G ?beq; (case beq => k_is)))
    (case r_satellite => (refine' PySem.W.mg_of KX G ?q_u38; (case q_u38 => k_is)))
    (case r_station => (refine' PySem.W.mg_of KX G ?q_u39; (case q_u39 => k_is)))
    (case r_recording => (refine' PySem.W.mg_of KX G ?q_u40; (case q_u40 => k_is)))
    (case r_pass => (refine' PySem.W.mg_of KX G ?q_u41; (case q_u41 => k_is)))
    (case g_SORTS => (refine' PySem.W.mg_of KX G ?q_u42; (case q_u42 => k_is)))
    (case t_SORTS => (refine' DP.tup4s_mk ?q_u43; (case q_u43 => k_is)))
    (case k_SORTS => (refine' DP.tupk_mk ?q_u44; (case q_u44 => k_is)))
    (case g_READERS => (refine' PySem.W.mg_of KX G ?q_u45; (case q_u45 => k_is)))
    (case t_READERS => (refine' DP.tup4r_mk ?q_u46; (case q_u46 => k_is)))
    (case n_Line_number => (show PySem.W.findIn _ _ _ = some none; k_is))
    (case n_Line_words => (show PySem.W.findIn _ _ _ = some none; k_is))
    (case n_Line_read => (show PySem.W.findIn _ _ _ = some none; k_is))
    (case n_Line_column => (show PySem.W.findIn _ _ _ = some none; k_is))
    (case n_Satellite_name => (show PySem.W.findIn _ _ _ = some none; k_is))
    (case n_Satellite_store => (show PySem.W.findIn _ _ _ = some none; k_is))
    (case n_Satellite_battery => (show PySem.W.findIn _ _ _ = some none; k_is))
    (case n_Satellite_start_level => (show PySem.W.findIn _ _ _ = some none; k_is))
    (case n_Satellite_reserve => (show PySem.W.findIn _ _ _ = some none; k_is))
    (case n_Satellite_charge => (show PySem.W.findIn _ _ _ = some none; k_is))
    (case n_Satellite_settle => (show PySem.W.findIn _ _ _ = some none; k_is))
    (case n_Satellite_light => (show PySem.W.findIn _ _ _ = some none; k_is))
    (case n_Station_name => (show PySem.W.findIn _ _ _ = some none; k_is))
    (case n_Station_antennas => (show PySem.W.findIn _ _ _ = some none; k_is))
    (case n_Station_turn => (show PySem.W.findIn _ _ _ = some none; k_is))
    (case n_Recording_name => (show PySem.W.findIn _ _ _ = some none; k_is))
    (case n_Recording_satellite => (show PySem.W.findIn _ _ _ = some none; k_is))
    (case n_Recording_earliest => (show PySem.W.findIn _ _ _ = some none; k_is))
    (case n_Recording_latest => (show PySem.W.findIn _ _ _ = some none; k_is))
    (case n_Recording_length => (show PySem.W.findIn _ _ _ = some none; k_is))
    (case n_Recording_size => (show PySem.W.findIn _ _ _ = some none; k_is))
    (case n_Recording_energy => (show PySem.W.findIn _ _ _ = some none; k_is))
    (case n_Recording_worth => (show PySem.W.findIn _ _ _ = some none; k_is))
    (case n_Recording_rank => (show PySem.W.findIn _ _ _ = some none; k_is))
    (case n_Recording_deadline => (show PySem.W.findIn _ _ _ = some none; k_is))
    (case n_Pass_name => (show PySem.W.findIn _ _ _ = some none; k_is))
    (case n_Pass_satellite => (show PySem.W.findIn _ _ _ = some none; k_is))
    (case n_Pass_station => (show PySem.W.findIn _ _ _ = some none; k_is))
    (case n_Pass_span => (show PySem.W.findIn _ _ _ = some none; k_is))
    (case n_Pass_room => (show PySem.W.findIn _ _ _ = some none; k_is))
    (case n_Pass_energy => (show PySem.W.findIn _ _ _ = some none; k_is))
    (case n_Pass_fee => (show PySem.W.findIn _ _ _ = some none; k_is))
    (case n_World_text => (show PySem.W.findIn _ _ _ = some none; k_is))
    (case n_World_horizon => (show PySem.W.findIn _ _ _ = some none; k_is))
    (case n_World_satellites => (show PySem.W.findIn _ _ _ = some none; k_is))
    (case n_World_stations => (show PySem.W.findIn _ _ _ = some none; k_is))
    (case n_World_recordings => (show PySem.W.findIn _ _ _ = some none; k_is))
    (case n_World_passes => (show PySem.W.findIn _ _ _ = some none; k_is))
    (case z_len => (refine' PySem.W.mg_none_of KX G ?q_u1; (case q_u1 => k_is)))
    (case z_range => (refine' PySem.W.mg_none_of KX G ?q_u2; (case q_u2 => k_is)))
    (case z_int => (refine' PySem.W.mg_none_of KX G ?q_u3; (case q_u3 => k_is)))
    (case z_abs => (refine' PySem.W.mg_none_of KX G ?q_u4; (case q_u4 => k_is)))
    (case z_isinstance => (refine' PySem.W.mg_none_of KX G ?q_u5; (case q_u5 => k_is)))
    (case z_bool => (refine' PySem.W.mg_none_of KX G ?q_u6; (case q_u6 => k_is)))
    (case z_str => (refine' PySem.W.mg_none_of KX G ?q_u7; (case q_u7 => k_is)))
    (case z_tuple => (refine' PySem.W.mg_none_of KX G ?q_u8; (case q_u8 => k_is)))
    (case z_list => (refine' PySem.W.mg_none_of KX G ?q_u9; (case q_u9 => k_is)))
    (case z_sum => (refine' PySem.W.mg_none_of KX G ?q_u10; (case q_u10 => k_is)))
    (case z_max => (refine' PySem.W.mg_none_of KX G ?q_u11; (case q_u11 => k_is)))
    (case z_min => (refine' PySem.W.mg_none_of KX G ?q_u12; (case q_u12 => k_is)))
    (case z_all => (refine' PySem.W.mg_none_of KX G ?q_u13; (case q_u13 => k_is)))
    (case z_enumerate => (refine' PySem.W.mg_none_of KX G ?q_u14; (case q_u14 => k_is)))
    (case z_zip => (refine' PySem.W.mg_none_of KX G ?q_u15; (case q_u15 => k_is)))
    (case g_LETTERS => (refine' DP.str_mk KX G ?q_u23; (case q_u23 => k_is)))
    (case g_DIGITS => (refine' DP.str_mk KX G ?q_u24; (case q_u24 => k_is)))
    (case g_MOST_NAME => (refine' DP.int_mk KX G ?q_u25; (case q_u25 => k_is)))
    (case g_MOST_DIGITS => (refine' DP.int_mk KX G ?q_u26; (case q_u26 => k_is)))
    (case g_SATELLITES => (refine' DP.int_mk KX G ?q_u27; (case q_u27 => k_is)))
    (case g_STATIONS => (refine' DP.int_mk KX G ?q_u28; (case q_u28 => k_is)))
    (case g_RECORDINGS => (refine' DP.int_mk KX G ?q_u29; (case q_u29 => k_is)))
    (case g_PASSES => (refine' DP.int_mk KX G ?q_u30; (case q_u30 => k_is)))
    (case g_MOST_UNITS => (refine' DP.int_mk KX G ?q_u31; (case q_u31 => k_is)))
    (case g_MOST_CHARGE => (refine' DP.int_mk KX G ?q_u32; (case q_u32 => k_is)))
    (case g_MOST_DELAY => (refine' DP.int_mk KX G ?q_u33; (case q_u33 => k_is)))
    (case g_MOST_ANTENNAS => (refine' DP.int_mk KX G ?q_u34; (case q_u34 => k_is)))
    (case g_MOST_WORTH => (refine' DP.int_mk KX G ?q_u35; (case q_u35 => k_is)))
    (case g_MOST_RANK => (refine' DP.int_mk KX G ?q_u36; (case q_u36 => k_is)))
    (case g_MOST_FEE => (refine' DP.int_mk KX G ?q_u37; (case q_u37 => k_is)))
    (case rdW => (refine' ⟨?rd_u47, ?ga_u47⟩; (case rd_u47 => k_is); (case ga_u47 => k_is)))
    (case v_MOST_HORIZON => (refine' DP.cval_mk ?q_u48; (case q_u48 => k_is)))
    (case v_MOST_SATELLITES => (refine' DP.cval_mk ?q_u49; (case q_u49 => k_is)))
    (case v_MOST_STATIONS => (refine' DP.cval_mk ?q_u50; (case q_u50 => k_is)))
    (case v_MOST_RECORDINGS => (refine' DP.cval_mk ?q_u51; (case q_u51 => k_is)))
    (case v_MOST_PASSES => (refine' DP.cval_mk ?q_u52; (case q_u52 => k_is)))
    (case v_MOST_SHIFT => (refine' DP.cval_mk ?q_u53; (case q_u53 => k_is)))
    (case p_names_of => (refine' DP.at_mk KX G ?a_u54 ?l_u54 ?c_u54 ?k_u54 DP.hb_names_of; (case a_u54 => k_is); (case l_u54 => k_is); (case c_u54 => k_is); (case k_u54 => k_is)))
    (case p_read_light => (refine' DP.at_mk KX G ?a_u55 ?l_u55 ?c_u55 ?k_u55 DP.hb_read_light; (case a_u55 => k_is); (case l_u55 => k_is); (case c_u55 => k_is); (case k_u55 => k_is)))
    (case p_read_satellite => (refine' DP.at_mk KX G ?a_u56 ?l_u56 ?c_u56 ?k_u56 DP.hb_read_satellite; (case a_u56 => k_is); (case l_u56 => k_is); (case c_u56 => k_is); (case k_u56 => k_is)))
    (case p_read_station => (refine' DP.at_mk KX G ?a_u57 ?l_u57 ?c_u57 ?k_u57 DP.hb_read_station; (case a_u57 => k_is); (case l_u57 => k_is); (case c_u57 => k_is); (case k_u57 => k_is)))
    (case p_read_recording => (refine' DP.at_mk KX G ?a_u58 ?l_u58 ?c_u58 ?k_u58 DP.hb_read_recording; (case a_u58 => k_is); (case l_u58 => k_is); (case c_u58 => k_is); (case k_u58 => k_is)))
    (case p_read_pass => (refine' DP.at_mk KX G ?a_u59 ?l_u59 ?c_u59 ?k_u59 DP.hb_read_pass; (case a_u59 => k_is); (case l_u59 => k_is); (case c_u59 => k_is); (case k_u59 => k_is)))
    (case p_most_things => (refine' DP.at_mk KX G ?a_u60 ?l_u60 ?c_u60 ?k_u60 DP.hb_most_things; (case a_u60 => k_is); (case l_u60 => k_is); (case c_u60 => k_is); (case k_u60 => k_is)))
    (case p_read_sort => (refine' DP.at_mk KX G ?a_u61 ?l_u61 ?c_u61 ?k_u61 DP.hb_read_sort; (case a_u61 => k_is); (case l_u61 => k_is); (case c_u61 => k_is); (case k_u61 => k_is)))
    (case p_read_things => (refine' DP.at_mk KX G ?a_u62 ?l_u62 ?c_u62 ?k_u62 DP.hb_read_things; (case a_u62 => k_is); (case l_u62 => k_is); (case c_u62 => k_is); (case k_u62 => k_is)))
    (case p_lines_of => (refine' DP.at_mk KX G ?a_u63 ?l_u63 ?c_u63 ?k_u63 DP.hb_lines_of; (case a_u63 => k_is); (case l_u63 => k_is); (case c_u63 => k_is); (case k_u63 => k_is)))
    (case p_is_name => (refine' DP.at_mk KX G ?a_u64 ?l_u64 ?c_u64 ?k_u64 DP.hb_is_name; (case a_u64 => k_is); (case l_u64 => k_is); (case c_u64 => k_is); (case k_u64 => k_is)))
    (case p_is_number => (refine' DP.at_mk KX G ?a_u65 ?l_u65 ?c_u65 ?k_u65 DP.hb_is_number; (case a_u65 => k_is); (case l_u65 => k_is); (case c_u65 => k_is); (case k_u65 => k_is)))
    (case p_Line___init__ => (refine' DP.met_mk ?a_u66 ?i_u66 ?l_u66 ?c_u66 ?k_u66 DP.hb_Line___init__; (case a_u66 => k_is); (case i_u66 => k_is); (case l_u66 => k_is); (case c_u66 => k_is); (case k_u66 => k_is)))
    (case p_Line_has_more => (refine' DP.met_mk ?a_u67 ?i_u67 ?l_u67 ?c_u67 ?k_u67 DP.hb_Line_has_more; (case a_u67 => k_is); (case i_u67 => k_is); (case l_u67 => k_is); (case c_u67 => k_is); (case k_u67 => k_is)))
    (case p_Line_due => (refine' DP.met_mk ?a_u68 ?i_u68 ?l_u68 ?c_u68 ?k_u68 DP.hb_Line_due; (case a_u68 => k_is); (case i_u68 => k_is); (case l_u68 => k_is); (case c_u68 => k_is); (case k_u68 => k_is)))
    (case p_Line_step => (refine' DP.met_mk ?a_u69 ?i_u69 ?l_u69 ?c_u69 ?k_u69 DP.hb_Line_step; (case a_u69 => k_is); (case i_u69 => k_is); (case l_u69 => k_is); (case c_u69 => k_is); (case k_u69 => k_is)))
    (case p_Line_read_choice => (refine' DP.met_mk ?a_u70 ?i_u70 ?l_u70 ?c_u70 ?k_u70 DP.hb_Line_read_choice; (case a_u70 => k_is); (case i_u70 => k_is); (case l_u70 => k_is); (case c_u70 => k_is); (case k_u70 => k_is)))
    (case p_Line_read_number => (refine' DP.met_mk ?a_u71 ?i_u71 ?l_u71 ?c_u71 ?k_u71 DP.hb_Line_read_number; (case a_u71 => k_is); (case i_u71 => k_is); (case l_u71 => k_is); (case c_u71 => k_is); (case k_u71 => k_is)))
    (case p_Line_read_field => (refine' DP.met_mk ?a_u72 ?i_u72 ?l_u72 ?c_u72 ?k_u72 DP.hb_Line_read_field; (case a_u72 => k_is); (case i_u72 => k_is); (case l_u72 => k_is); (case c_u72 => k_is); (case k_u72 => k_is)))
    (case p_Line_due_name => (refine' DP.met_mk ?a_u73 ?i_u73 ?l_u73 ?c_u73 ?k_u73 DP.hb_Line_due_name; (case a_u73 => k_is); (case i_u73 => k_is); (case l_u73 => k_is); (case c_u73 => k_is); (case k_u73 => k_is)))
    (case p_Line_read_new_name => (refine' DP.met_mk ?a_u74 ?i_u74 ?l_u74 ?c_u74 ?k_u74 DP.hb_Line_read_new_name; (case a_u74 => k_is); (case i_u74 => k_is); (case l_u74 => k_is); (case c_u74 => k_is); (case k_u74 => k_is)))
    (case p_Line_read_known_name => (refine' DP.metD_mk ?a_u75 ?i_u75 ?l_u75 ?lT_u75 ?c_u75 ?k_u75 2 rfl DP.hb_Line_read_known_name; (case a_u75 => k_is); (case i_u75 => k_is); (case l_u75 => k_is); (case lT_u75 => k_is); (case c_u75 => k_is); (case k_u75 => k_is)))
    (case p_Line_finish => (refine' DP.met_mk ?a_u76 ?i_u76 ?l_u76 ?c_u76 ?k_u76 DP.hb_Line_finish; (case a_u76 => k_is); (case i_u76 => k_is); (case l_u76 => k_is); (case c_u76 => k_is); (case k_u76 => k_is)))
    (case p_Satellite___init__ => (refine' DP.met_mk ?a_u77 ?i_u77 ?l_u77 ?c_u77 ?k_u77 DP.hb_Satellite___init__; (case a_u77 => k_is); (case i_u77 => k_is); (case l_u77 => k_is); (case c_u77 => k_is); (case k_u77 => k_is)))
    (case p_Station___init__ => (refine' DP.met_mk ?a_u78 ?i_u78 ?l_u78 ?c_u78 ?k_u78 DP.hb_Station___init__; (case a_u78 => k_is); (case i_u78 => k_is); (case l_u78 => k_is); (case c_u78 => k_is); (case k_u78 => k_is)))
    (case p_Recording___init__ => (refine' DP.met_mk ?a_u79 ?i_u79 ?l_u79 ?c_u79 ?k_u79 DP.hb_Recording___init__; (case a_u79 => k_is); (case i_u79 => k_is); (case l_u79 => k_is); (case c_u79 => k_is); (case k_u79 => k_is)))
    (case p_Pass___init__ => (refine' DP.met_mk ?a_u80 ?i_u80 ?l_u80 ?c_u80 ?k_u80 DP.hb_Pass___init__; (case a_u80 => k_is); (case i_u80 => k_is); (case l_u80 => k_is); (case c_u80 => k_is); (case k_u80 => k_is)))
    (case p_World___init__ => (refine' DP.met_mk ?a_u81 ?i_u81 ?l_u81 ?c_u81 ?k_u81 DP.hb_World___init__; (case a_u81 => k_is); (case i_u81 => k_is); (case l_u81 => k_is); (case c_u81 => k_is); (case k_u81 => k_is)))
    (case p_World_parse => (refine' DP.smet_mk ?a_u82 ?r_u82 ?l_u82 ?c_u82 ?k_u82 DP.hb_World_parse; (case a_u82 => k_is); (case r_u82 => k_is); (case l_u82 => k_is); (case c_u82 => k_is); (case k_u82 => k_is)))
    (case a__law_cell => (refine' DP.at_mk KX G ?a_u83 ?l_u83 ?c_u83 ?k_u83 DP.hb__law_cell; (case a_u83 => k_is); (case l_u83 => k_is); (case c_u83 => k_is); (case k_u83 => k_is)))
    (case a__law_draws => (refine' DP.at_mk KX G ?a_u84 ?l_u84 ?c_u84 ?k_u84 DP.hb__law_draws; (case a_u84 => k_is); (case l_u84 => k_is); (case c_u84 => k_is); (case k_u84 => k_is)))
    (case a__law_stream => (refine' DP.at_mk KX G ?a_u85 ?l_u85 ?c_u85 ?k_u85 DP.hb__law_stream; (case a_u85 => k_is); (case l_u85 => k_is); (case c_u85 => k_is); (case k_u85 => k_is)))
    (case a__law_next => (refine' DP.at_mk KX G ?a_u86 ?l_u86 ?c_u86 ?k_u86 DP.hb__law_next; (case a_u86 => k_is); (case l_u86 => k_is); (case c_u86 => k_is); (case k_u86 => k_is)))
    (case a__law_word => (refine' DP.at_mk KX G ?a_u87 ?l_u87 ?c_u87 ?k_u87 DP.hb__law_word; (case a_u87 => k_is); (case l_u87 => k_is); (case c_u87 => k_is); (case k_u87 => k_is)))
    (case a__law_satellite => (refine' DP.at_mk KX G ?a_u88 ?l_u88 ?c_u88 ?k_u88 DP.hb__law_satellite; (case a_u88 => k_is); (case l_u88 => k_is); (case c_u88 => k_is); (case k_u88 => k_is)))
    (case a__law_recording => (refine' DP.at_mk KX G ?a_u89 ?l_u89 ?c_u89 ?k_u89 DP.hb__law_recording; (case a_u89 => k_is); (case l_u89 => k_is); (case c_u89 => k_is); (case k_u89 => k_is)))
    (case a__law_pass => (refine' DP.at_mk KX G ?a_u90 ?l_u90 ?c_u90 ?k_u90 DP.hb__law_pass; (case a_u90 => k_is); (case l_u90 => k_is); (case c_u90 => k_is); (case k_u90 => k_is)))
    (case a__law_world => (refine' DP.at_mk KX G ?a_u91 ?l_u91 ?c_u91 ?k_u91 DP.hb__law_world; (case a_u91 => k_is); (case l_u91 => k_is); (case c_u91 => k_is); (case k_u91 => k_is)))
    (case a__law_lines => (refine' DP.at_mk KX G ?a_u92 ?l_u92 ?c_u92 ?k_u92 DP.hb__law_lines; (case a_u92 => k_is); (case l_u92 => k_is); (case c_u92 => k_is); (case k_u92 => k_is)))
    (case a__law_text => (refine' DP.at_mk KX G ?a_u93 ?l_u93 ?c_u93 ?k_u93 DP.hb__law_text; (case a_u93 => k_is); (case l_u93 => k_is); (case c_u93 => k_is); (case k_u93 => k_is)))
    (case a__law_is_integer => (refine' DP.at_mk KX G ?a_u94 ?l_u94 ?c_u94 ?k_u94 DP.hb__law_is_integer; (case a_u94 => k_is); (case l_u94 => k_is); (case c_u94 => k_is); (case k_u94 => k_is)))
    (case a__law_same => (refine' DP.at_mk KX G ?a_u95 ?l_u95 ?c_u95 ?k_u95 DP.hb__law_same; (case a_u95 => k_is); (case l_u95 => k_is); (case c_u95 => k_is); (case k_u95 => k_is)))
    (case a__law_options => (refine' DP.at_mk KX G ?a_u96 ?l_u96 ?c_u96 ?k_u96 DP.hb__law_options; (case a_u96 => k_is); (case l_u96 => k_is); (case c_u96 => k_is); (case k_u96 => k_is)))
    (case a__law_case => (refine' DP.at_mk KX G ?a_u97 ?l_u97 ?c_u97 ?k_u97 DP.hb__law_case; (case a_u97 => k_is); (case l_u97 => k_is); (case c_u97 => k_is); (case k_u97 => k_is)))
    (case a_is_tuple_of => (refine' DP.at_mk KX G ?a_u98 ?l_u98 ?c_u98 ?k_u98 DP.hb_is_tuple_of; (case a_u98 => k_is); (case l_u98 => k_is); (case c_u98 => k_is); (case k_u98 => k_is)))
    (case a_is_made_entry => (refine' DP.at_mk KX G ?a_u99 ?l_u99 ?c_u99 ?k_u99 DP.hb_is_made_entry; (case a_u99 => k_is); (case l_u99 => k_is); (case c_u99 => k_is); (case k_u99 => k_is)))
    (case a_is_taken_entry => (refine' DP.at_mk KX G ?a_u100 ?l_u100 ?c_u100 ?k_u100 DP.hb_is_taken_entry; (case a_u100 => k_is); (case l_u100 => k_is); (case c_u100 => k_is); (case k_u100 => k_is)))
    (case a_check_case => (refine' DP.at_mk KX G ?a_u101 ?l_u101 ?c_u101 ?k_u101 DP.hb_check_case; (case a_u101 => k_is); (case l_u101 => k_is); (case c_u101 => k_is); (case k_u101 => k_is)))
    (case a_check_plan => (refine' DP.at_mk KX G ?a_u102 ?l_u102 ?c_u102 ?k_u102 DP.hb_check_plan; (case a_u102 => k_is); (case l_u102 => k_is); (case c_u102 => k_is); (case k_u102 => k_is)))
    (case a_is_integer => (refine' DP.at_mk KX G ?a_u103 ?l_u103 ?c_u103 ?k_u103 DP.hb_is_integer; (case a_u103 => k_is); (case l_u103 => k_is); (case c_u103 => k_is); (case k_u103 => k_is)))
    (case a_is_option => (refine' DP.at_mk KX G ?a_u104 ?l_u104 ?c_u104 ?k_u104 DP.hb_is_option; (case a_u104 => k_is); (case l_u104 => k_is); (case c_u104 => k_is); (case k_u104 => k_is)))
    (case a_options => (refine' DP.at_mk KX G ?a_u105 ?l_u105 ?c_u105 ?k_u105 DP.hb_options; (case a_u105 => k_is); (case l_u105 => k_is); (case c_u105 => k_is); (case k_u105 => k_is)))
    (case a_recording_choices => (refine' DP.at_mk KX G ?a_u106 ?l_u106 ?c_u106 ?k_u106 DP.hb_recording_choices; (case a_u106 => k_is); (case l_u106 => k_is); (case c_u106 => k_is); (case k_u106 => k_is)))
    (case a_pass_choices => (refine' DP.at_mk KX G ?a_u107 ?l_u107 ?c_u107 ?k_u107 DP.hb_pass_choices; (case a_u107 => k_is); (case l_u107 => k_is); (case c_u107 => k_is); (case k_u107 => k_is)))
    (case a_fees_of => (refine' DP.at_mk KX G ?a_u108 ?l_u108 ?c_u108 ?k_u108 DP.hb_fees_of; (case a_u108 => k_is); (case l_u108 => k_is); (case c_u108 => k_is); (case k_u108 => k_is)))
    (case a_base_of => (refine' DP.at_mk KX G ?a_u109 ?l_u109 ?c_u109 ?k_u109 DP.hb_base_of; (case a_u109 => k_is); (case l_u109 => k_is); (case c_u109 => k_is); (case k_u109 => k_is)))
    (case a_recording_weight => (refine' DP.at_mk KX G ?a_u110 ?l_u110 ?c_u110 ?k_u110 DP.hb_recording_weight; (case a_u110 => k_is); (case l_u110 => k_is); (case c_u110 => k_is); (case k_u110 => k_is)))
    (case a_weight_of => (refine' DP.at_mk KX G ?a_u111 ?l_u111 ?c_u111 ?k_u111 DP.hb_weight_of; (case a_u111 => k_is); (case l_u111 => k_is); (case c_u111 => k_is); (case k_u111 => k_is)))
    (case a_entries_of => (refine' DP.at_mk KX G ?a_u112 ?l_u112 ?c_u112 ?k_u112 DP.hb_entries_of; (case a_u112 => k_is); (case l_u112 => k_is); (case c_u112 => k_is); (case k_u112 => k_is)))
    (case a_Goal___init__ => (refine' DP.met_mk ?a_u113 ?i_u113 ?l_u113 ?c_u113 ?k_u113 DP.hb_Goal___init__; (case a_u113 => k_is); (case i_u113 => k_is); (case l_u113 => k_is); (case c_u113 => k_is); (case k_u113 => k_is)))
    (case a_changes => (refine' DP.at_mk KX G ?a_u114 ?l_u114 ?c_u114 ?k_u114 DP.hb_changes; (case a_u114 => k_is); (case l_u114 => k_is); (case c_u114 => k_is); (case k_u114 => k_is)))
    (case a_changes_of => (refine' DP.at_mk KX G ?a_u115 ?l_u115 ?c_u115 ?k_u115 DP.hb_changes_of; (case a_u115 => k_is); (case l_u115 => k_is); (case c_u115 => k_is); (case k_u115 => k_is)))
    (case a_goal_weight => (refine' DP.at_mk KX G ?a_u116 ?l_u116 ?c_u116 ?k_u116 DP.hb_goal_weight; (case a_u116 => k_is); (case l_u116 => k_is); (case c_u116 => k_is); (case k_u116 => k_is)))
    (case a_recording_worth => (refine' DP.at_mk KX G ?a_u117 ?l_u117 ?c_u117 ?k_u117 DP.hb_recording_worth; (case a_u117 => k_is); (case l_u117 => k_is); (case c_u117 => k_is); (case k_u117 => k_is)))
    (case a_pass_worth => (refine' DP.at_mk KX G ?a_u118 ?l_u118 ?c_u118 ?k_u118 DP.hb_pass_worth; (case a_u118 => k_is); (case l_u118 => k_is); (case c_u118 => k_is); (case k_u118 => k_is)))
    (case a_recording_entries => (refine' DP.at_mk KX G ?a_u119 ?l_u119 ?c_u119 ?k_u119 DP.hb_recording_entries; (case a_u119 => k_is); (case l_u119 => k_is); (case c_u119 => k_is); (case k_u119 => k_is)))
    (case a_pass_entries => (refine' DP.at_mk KX G ?a_u120 ?l_u120 ?c_u120 ?k_u120 DP.hb_pass_entries; (case a_u120 => k_is); (case l_u120 => k_is); (case c_u120 => k_is); (case k_u120 => k_is)))
    (case a__law_weight => (refine' DP.at_mk KX G ?a_u121 ?l_u121 ?c_u121 ?k_u121 DP.hb__law_weight; (case a_u121 => k_is); (case l_u121 => k_is); (case c_u121 => k_is); (case k_u121 => k_is)))
    (case a_law => (refine' DP.at_mk KX G ?a_u122 ?l_u122 ?c_u122 ?k_u122 DP.hb_law; (case a_u122 => k_is); (case l_u122 => k_is); (case c_u122 => k_is); (case k_u122 => k_is)))
