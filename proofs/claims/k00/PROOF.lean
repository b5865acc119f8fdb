import PyProof.Rows.All
import Wide.All
import OpenK.AllK
import Wide.FinOn
import PyProof.ListMulRoad
import HandS.ForMost
import HandS.IsInst
import HandS.TupAny
import HandS.TupMul
import HandS.Star
import HandS.Wide
import HandS.Style
import HandS.TryOnly
import HandS.NoneIn
import HandS.Gcd
import PySem.Challenge.RW_noroadback_k00_whole_bare_forms_and_prod
set_option Elab.async false
set_option linter.all false
set_option maxRecDepth 100000
set_option maxHeartbeats 4000000
/-! Words in which an entry and its opposite strike each other out: what is left, and what goes along with it. -/
namespace Fr
/-- the entry e laid on a pile (its top first) -/
def push (e : Int) : List Int → List Int
  | [] => [e]
  | x :: t => if x = -e then t else e :: x :: t
def act (w s : List Int) : List Int := w.foldl (fun s e => push e s) s
def red (w : List Int) : List Int := (act w []).reverse
def Nf : List Int → Prop
  | [] => True
  | [_] => True
  | x :: y :: t => x ≠ -y ∧ Nf (y :: t)
def opp (w : List Int) : List Int := (w.map fun e => -e).reverse
def rep (w : List Int) : Nat → List Int
  | 0 => []
  | n + 1 => rep w n ++ w

theorem push_eq {e x : Int} {t : List Int} (h : x = -e) : push e (x :: t) = t := by
  show (if x = -e then t else e :: x :: t) = t
  rw [if_pos h]
theorem push_on {e x : Int} {t : List Int} (h : ¬ x = -e) : push e (x :: t) = e :: x :: t := by
  show (if x = -e then t else e :: x :: t) = e :: x :: t
  rw [if_neg h]
theorem Nf.tail {x : Int} {t : List Int} (h : Nf (x :: t)) : Nf t := by
  cases t with
  | nil => exact True.intro
  | cons y t => exact h.2
theorem push_nf {e : Int} {s : List Int} (h : Nf s) : Nf (push e s) := by
  cases s with
  | nil => exact True.intro
  | cons x t =>
    by_cases hx : x = -e
    · rw [push_eq hx]; exact h.tail
    · rw [push_on hx]; exact ⟨fun q => hx (by omega), h⟩
theorem push_back {e : Int} {s : List Int} (h : Nf s) : push (-e) (push e s) = s := by
  cases s with
  | nil => exact push_eq (t := []) (by omega)
  | cons x t =>
    by_cases hx : x = -e
    · have h1 : push e (x :: t) = t := push_eq hx
      rw [h1]
      cases t with
      | nil => show [-e] = [x]; rw [hx]
      | cons y t =>
        have hn : ¬ y = - -e := fun q => h.1 (by omega)
        show (if y = - -e then t else -e :: y :: t) = x :: y :: t
        rw [if_neg hn, hx]
    · have h1 : push e (x :: t) = e :: x :: t := push_on hx
      rw [h1]
      show (if e = - -e then x :: t else _) = x :: t
      rw [if_pos (by omega)]
theorem push_fwd {e : Int} {s : List Int} (h : Nf s) : push e (push (-e) s) = s := by
  have := push_back (e := -e) h
  rwa [Int.neg_neg] at this
theorem act_nil (s : List Int) : act [] s = s := rfl
theorem act_cons (e : Int) (w s : List Int) : act (e :: w) s = act w (push e s) := rfl
theorem act_app (a b s : List Int) : act (a ++ b) s = act b (act a s) := List.foldl_append
theorem act_nf : ∀ (w : List Int) {s : List Int}, Nf s → Nf (act w s)
  | [], _, h => h
  | e :: w, _, h => act_nf w (push_nf h)
theorem opp_nil : opp [] = [] := rfl
theorem opp_cons (e : Int) (w : List Int) : opp (e :: w) = opp w ++ [-e] := by unfold opp; rw [List.map_cons, List.reverse_cons]
theorem opp_app (a b : List Int) : opp (a ++ b) = opp b ++ opp a := by unfold opp; rw [List.map_append, List.reverse_append]
theorem opp_opp (w : List Int) : opp (opp w) = w := by
  induction w with
  | nil => rfl
  | cons e w ih => rw [opp_cons, opp_app, ih]; show [- -e] ++ w = e :: w; rw [Int.neg_neg]; rfl
theorem opp_len (w : List Int) : (opp w).length = w.length := by unfold opp; rw [List.length_reverse, List.length_map]
theorem act_opp : ∀ (w : List Int) {s : List Int}, Nf s → act (opp w) (act w s) = s
  | [], _, _ => rfl
  | e :: w, s, h => by
    rw [opp_cons, act_app]
    show push (-e) (act (opp w) (act w (push e s))) = s
    rw [act_opp w (push_nf h)]
    exact push_back h
theorem opp_act (w : List Int) {s : List Int} (h : Nf s) : act w (act (opp w) s) = s := by
  have := act_opp (opp w) h
  rwa [opp_opp] at this
theorem snoc_ind {P : List Int → Prop} (h0 : P []) (h1 : ∀ w e, P w → P (w ++ [e])) (w : List Int) : P w := by
  have h : ∀ v : List Int, P v.reverse := fun v => by
    induction v with
    | nil => exact h0
    | cons e v ih => rw [List.reverse_cons]; exact h1 _ _ ih
  have := h w.reverse
  rwa [List.reverse_reverse] at this
theorem red_snoc (w : List Int) (e : Int) : red (w ++ [e]) = (push e (act w [])).reverse := by unfold red; rw [act_app]; rfl
/-- what is left acts as the whole -/
theorem act_red (w : List Int) : ∀ {s : List Int}, Nf s → act (red w) s = act w s := by
  refine snoc_ind (P := fun w => ∀ {s : List Int}, Nf s → act (red w) s = act w s) (fun _ => rfl) (fun w e ih => ?_) w
  intro s h
  rw [red_snoc, act_app]
  show act (push e (act w [])).reverse s = push e (act w s)
  rw [← ih h]
  unfold red
  cases q : act w [] with
  | nil => rfl
  | cons x t =>
    by_cases hx : x = -e
    · have h1 : push e (x :: t) = t := push_eq hx
      rw [h1, List.reverse_cons, act_app, hx]
      show act t.reverse s = push e (push (-e) (act t.reverse s))
      rw [push_fwd (act_nf _ h)]
    · have h1 : push e (x :: t) = e :: x :: t := push_on hx
      rw [h1, List.reverse_cons, act_app]
      rfl
theorem Nf.of_act (w : List Int) : Nf (act w []) := act_nf w (s := []) True.intro
/-- a bare row with a bare end: the two ends as they meet -/
theorem nf_snoc2 : ∀ {w : List Int} {x y : Int}, Nf (w ++ [x]) → x ≠ -y → Nf (w ++ [x, y])
  | [], _, _, _, h => ⟨h, True.intro⟩
  | [a], _, _, h1, h => ⟨h1.1, h, True.intro⟩
  | a :: b :: w, _, _, h1, h => ⟨h1.1, nf_snoc2 (w := b :: w) h1.2 h⟩
theorem nf_rev {w : List Int} (h : Nf w) : Nf w.reverse := by
  induction w with
  | nil => exact True.intro
  | cons x w ih =>
    cases w with
    | nil => exact True.intro
    | cons y w =>
      rw [List.reverse_cons, List.reverse_cons, List.append_assoc]
      have h2 := ih h.2
      rw [List.reverse_cons] at h2
      exact nf_snoc2 h2 fun q => h.1 (by omega)
theorem red_nf (w : List Int) : Nf (red w) := nf_rev (Nf.of_act w)
theorem nf_front : ∀ {a b : List Int}, Nf (a ++ b) → Nf a
  | [], _, _ => True.intro
  | [_], _, _ => True.intro
  | _ :: y :: a, _, h => ⟨h.1, nf_front (a := y :: a) h.2⟩
theorem nf_back : ∀ {a b : List Int}, Nf (a ++ b) → Nf b
  | [], _, h => h
  | _ :: _, _, h => nf_back h.tail
theorem act_bare (w : List Int) : Nf w → act w [] = w.reverse := by
  refine snoc_ind (P := fun w => Nf w → act w [] = w.reverse) (fun _ => rfl) (fun w e ih h => ?_) w
  rw [act_app, ih (nf_front h), List.reverse_append]
  show push e w.reverse = [e].reverse ++ w.reverse
  cases q : w.reverse with
  | nil => rfl
  | cons x t =>
    have hw : w = t.reverse ++ [x] := by
      have := congrArg List.reverse q
      rwa [List.reverse_reverse, List.reverse_cons] at this
    rw [hw, List.append_assoc] at h
    have h2 : Nf [x, e] := nf_back h
    show (if x = -e then t else e :: x :: t) = e :: x :: t
    rw [if_neg h2.1]
theorem red_id {w : List Int} (h : Nf w) : red w = w := by unfold red; rw [act_bare w h, List.reverse_reverse]
theorem red_congr {a b : List Int} (h : act a [] = act b []) : red a = red b := by unfold red; rw [h]
theorem red_app_l (a b : List Int) : red (red a ++ b) = red (a ++ b) := red_congr (by rw [act_app, act_app, act_red a (s := []) True.intro])
theorem red_app_r (a b : List Int) : red (a ++ red b) = red (a ++ b) := red_congr (by rw [act_app, act_app, act_red b (Nf.of_act a)])
theorem red_red (a : List Int) : red (red a) = red a := red_id (red_nf a)
theorem red_opp_self (w : List Int) : red (w ++ opp w) = [] := by
  unfold red
  rw [act_app, act_opp w (s := []) True.intro]
  rfl
theorem red_opp (x : List Int) : red (opp x) = red (opp (red x)) := by
  refine red_congr ?_
  have n : Nf (act (opp (red x)) []) := act_nf _ (s := []) True.intro
  have h1 : act x (act (opp (red x)) []) = [] := by
    rw [← act_red x n]
    exact opp_act (red x) (s := []) True.intro
  have h2 := act_opp x n
  rw [h1] at h2
  exact h2
theorem nf_map_neg : ∀ {w : List Int}, Nf w → Nf (w.map fun e => -e)
  | [], _ => True.intro
  | [_], _ => True.intro
  | x :: y :: w, h => ⟨fun q => h.1 (by have q2 : -x = - -y := q; omega), nf_map_neg (w := y :: w) h.2⟩
theorem nf_opp {w : List Int} (h : Nf w) : Nf (opp w) := nf_rev (nf_map_neg h)
theorem opp_red (x : List Int) : opp (red x) = red (opp x) := by rw [red_opp, red_id (nf_opp (red_nf x))]
/-- a struck pair -/
theorem red_strike (a b : List Int) (x y : Int) (h : x = -y) : red (a ++ x :: y :: b) = red (a ++ b) := red_congr (by
  rw [act_app, act_app, act_cons, act_cons]
  have e : y = -x := by omega
  rw [e, push_back (Nf.of_act a)])

/-! powers -/
theorem rep_len (w : List Int) : ∀ n, (rep w n).length = n * w.length
  | 0 => by simp [rep]
  | n + 1 => by
    show (rep w n ++ w).length = _
    rw [List.length_append, rep_len w n, Nat.succ_mul]
theorem rep_nil : ∀ n, rep [] n = []
  | 0 => rfl
  | n + 1 => by show rep [] n ++ [] = []; rw [rep_nil n]; rfl
theorem rep_front (w : List Int) : ∀ n, rep w (n + 1) = w ++ rep w n
  | 0 => by show [] ++ w = w ++ []; simp
  | n + 1 => by
    show rep w (n + 1) ++ w = w ++ (rep w n ++ w)
    rw [rep_front w n, List.append_assoc]
theorem opp_rep (w : List Int) : ∀ n, opp (rep w n) = rep (opp w) n
  | 0 => rfl
  | n + 1 => by
    show opp (rep w n ++ w) = rep (opp w) (n + 1)
    rw [opp_app, opp_rep w n, rep_front]
theorem flat_rep (w : List Int) : ∀ n, (List.replicate n w).flatten = rep w n
  | 0 => rfl
  | n + 1 => by
    rw [List.replicate_succ, List.flatten_cons, flat_rep w n, rep_front]
/-- the power of a word for a number of any sign, not yet bare -/
def pw (w : List Int) (m : Int) : List Int := if m < 0 then rep (opp w) (-m).toNat else rep w m.toNat
theorem pw_succ (w : List Int) (m : Int) {s : List Int} (h : Nf s) : act (pw w (m + 1)) s = act w (act (pw w m) s) := by
  unfold pw
  by_cases h0 : m < 0
  · rw [if_pos h0]
    obtain ⟨k, hk⟩ : ∃ k : Nat, (-m).toNat = k + 1 := ⟨(-m).toNat - 1, by omega⟩
    rw [hk]
    show _ = act w (act (rep (opp w) k ++ opp w) s)
    rw [act_app, opp_act w (act_nf _ h)]
    by_cases h1 : m + 1 < 0
    · rw [if_pos h1]
      have : (-(m + 1)).toNat = k := by omega
      rw [this]
    · rw [if_neg h1]
      have e1 : (m + 1).toNat = 0 := by omega
      have e2 : k = 0 := by omega
      rw [e1, e2]
      rfl
  · rw [if_neg h0, if_neg (by omega : ¬ m + 1 < 0)]
    have : (m + 1).toNat = m.toNat + 1 := by omega
    rw [this]
    show act (rep w m.toNat ++ w) s = _
    rw [act_app]
theorem pw_add (w : List Int) (m : Int) : ∀ (n : Nat) {s : List Int}, Nf s → act (pw w (m + n)) s = act (rep w n) (act (pw w m) s)
  | 0, s, h => by
    have : m + ((0 : Nat) : Int) = m := by omega
    rw [this]
    rfl
  | n + 1, s, h => by
    have : m + ((n + 1 : Nat) : Int) = (m + n) + 1 := by omega
    rw [this, pw_succ w (m + n) h, pw_add w m n h]
    show _ = act (rep w n ++ w) _
    rw [act_app]
theorem red_pw_add (w : List Int) (m : Int) (n : Nat) : red (pw w (m + n)) = red (red (pw w m) ++ red (pw w (n : Int))) := by
  rw [red_app_l, red_app_r]
  refine red_congr ?_
  rw [pw_add w m n (s := []) True.intro, act_app]
  unfold pw
  rw [if_neg (by omega : ¬ (n : Int) < 0), Int.toNat_natCast]
theorem nf_join : ∀ {a b : List Int}, Nf a → Nf b → (∀ x y, a.getLast? = some x → b.head? = some y → x ≠ -y) → Nf (a ++ b)
  | [], _, _, hb, _ => hb
  | [x], [], _, _, _ => True.intro
  | [x], y :: b, _, hb, h => ⟨h x y rfl rfl, hb⟩
  | x :: z :: a, b, ha, hb, h => ⟨ha.1, nf_join (a := z :: a) ha.2 hb fun u v hu hv => h u v (by rw [List.getLast?_cons_cons]; exact hu) hv⟩
theorem last_rep {w : List Int} {x : Int} (h : w.getLast? = some x) (n : Nat) : (rep w (n + 1)).getLast? = some x := by
  show (rep w n ++ w).getLast? = some x
  rw [List.getLast?_append, h]
  rfl
theorem head_rep {w : List Int} {x : Int} (h : w.head? = some x) (n : Nat) : (rep w (n + 1)).head? = some x := by
  rw [rep_front, List.head?_append, h]
  rfl
theorem nf_rep {w : List Int} (h : Nf w) (hj : ∀ x y, w.getLast? = some x → w.head? = some y → x ≠ -y) : ∀ n, Nf (rep w n)
  | 0 => True.intro
  | n + 1 => by
    show Nf (rep w n ++ w)
    refine nf_join (nf_rep h hj n) h fun x y hx hy => ?_
    cases n with
    | zero => cases hx
    | succ n =>
      cases q : w.getLast? with
      | none =>
        have : w = [] := List.getLast?_eq_none_iff.mp q
        rw [this] at hy
        cases hy
      | some z =>
        rw [last_rep q n] at hx
        cases hx
        exact hj x y q hy
/-- a bare word in its two parts: its power as the program writes it -/
theorem red_pow {c m : List Int} (h : Nf (c ++ m ++ opp c)) (hm : m ≠ []) (hj : ∀ x y, m.getLast? = some x → m.head? = some y → x ≠ -y) (n : Nat) :
    red (rep (c ++ m ++ opp c) (n + 1)) = c ++ rep m (n + 1) ++ opp c := by
  have a1 : ∀ (n : Nat) {s : List Int}, Nf s → act (rep (c ++ m ++ opp c) n) s = act (c ++ rep m n ++ opp c) s := fun n => by
    induction n with
    | zero =>
      intro s hs
      show s = act (c ++ [] ++ opp c) s
      rw [List.append_nil, act_app, act_opp c hs]
    | succ n ih =>
      intro s hs
      show act (rep (c ++ m ++ opp c) n ++ (c ++ m ++ opp c)) s = act (c ++ (rep m n ++ m) ++ opp c) s
      rw [act_app, ih hs]
      simp only [act_app]
      rw [opp_act c (act_nf _ (act_nf _ hs))]
  have e : red (rep (c ++ m ++ opp c) (n + 1)) = red (c ++ rep m (n + 1) ++ opp c) := red_congr (a1 (n + 1) (s := []) True.intro)
  rw [e]
  refine red_id ?_
  have hcm : Nf (c ++ m) := nf_front h
  have hm1 : Nf m := nf_back hcm
  obtain ⟨z, hz⟩ : ∃ z, m.getLast? = some z := by
    cases q : m.getLast? with
    | none => exact absurd (List.getLast?_eq_none_iff.mp q) hm
    | some z => exact ⟨z, rfl⟩
  obtain ⟨u, hu⟩ : ∃ u, m.head? = some u := by
    cases m with
    | nil => exact absurd rfl hm
    | cons a b => exact ⟨a, rfl⟩
  have jn : ∀ {a b : List Int} {x y : Int}, Nf (a ++ b) → a.getLast? = some x → b.head? = some y → x ≠ -y := fun {a b x y} hab hx hy => by
    obtain ⟨a', ha⟩ : ∃ a', a = a' ++ [x] := by
      have hne : a ≠ [] := fun q => by rw [q] at hx; cases hx
      refine ⟨a.dropLast, ?_⟩
      rw [List.getLast?_eq_some_getLast hne] at hx
      have := List.dropLast_concat_getLast hne
      rw [Option.some.inj hx] at this
      exact this.symm
    obtain ⟨b', hb⟩ : ∃ b', b = y :: b' := by
      cases b with
      | nil => cases hy
      | cons p q => cases hy; exact ⟨q, rfl⟩
    rw [ha, hb, List.append_assoc] at hab
    have h2 : Nf ([x] ++ y :: b') := nf_back hab
    exact h2.1
  refine nf_join (nf_join (nf_front hcm) (nf_rep hm1 hj (n + 1)) fun x y hx hy => ?_) (nf_back h) fun x y hx hy => ?_
  · rw [head_rep hu n] at hy
    cases hy
    exact jn hcm hx hu
  · rw [List.getLast?_append, last_rep hz n] at hx
    cases hx
    exact jn h (by rw [List.getLast?_append, hz]; rfl) hy
end Fr

/-! rules of my own: a call by a positional promise, great powers, a tuple times a number, a tuple turned round -/
namespace N0
open PySem PySem.Spec PyProof.Rows L2 HT

structure Cl (P : Program) (w : World) (K : PySem.W.Frag) (mg : Str → Option Value) (base : Heap) (k : Nat) (x : Str) (sp : Sp) : Prop where
  ex : ∃ f : Addr, FnR P w K mg base CX0 k f sp ∧ mg x = some (.ref f) ∧ PySem.W.keepIn K (.ref f) = true
abbrev tFn (sp : Sp) (t : TA) : TE := fun σ H Q => t σ H fun vs H1 => sp vs H1 Q E0
section
variable {X : Cx} {x : Str} {k j : Nat} {sp : Sp} {e : Expr} {es : List Expr} {t : TA} {p pos : Pos}
theorem pe_f (c : Cl X.prog X.w X.K X.mg X.base k x sp) (hr : Room j X.A) (hk : k ≤ j) (hg : Gl X x) (ha : PA X (e :: es) t) (hdb : (x == ("__debug__" : Str)) = false := by decide)
    (he : starEach (e :: es) X.env = (false, eval e X.env) :: starEach es X.env := by rfl) (hpl : (backTo pos (starEach es X.env)).any (·.1) = false := by rfl) : PE X (.Call (.Name x p) (e :: es) [] pos) (tFn sp t) := by
  obtain ⟨f, F, hm, kp⟩ := c.ex
  refine ⟨fun pins s σ H Q I h => ?_⟩
  refine wpAny_Call_Name_kw (ld_glob I hg hm ?_ hdb)
  refine PySem.W.callWith_K (h₀ := X.base) I.ok.mod.kin kp (thn (ha.run pos pins s σ H _ I h) fun us s1 ⟨vs, H1, I1, r, q⟩ => ⟨I1.kIn, ?_⟩) he hpl
  exact wpAny_call (run_fnR F (hr.mono hk) pass0 I1 r q)
end
section
variable {P : Program} {w : World} {K : PySem.W.Frag} {mg : Str → Option Value} {base : Heap} {k : Nat} {x : Str} {sp sp' : Sp} {f : Addr} {fd : FuncData} {ps : List Str}
theorem cl_of (G : FnOk P w K mg base CX0 k f fd ps sp) (hm : mg x = some (.ref f)) (kp : PySem.W.keepIn K (.ref f) = true) (hb : Binds K fd ps []) : Cl P w K mg base k x sp :=
  ⟨f, (G.raw hb .nil).imp fun vs H Q E h => by rw [List.append_nil]; exact h, hm, kp⟩
theorem Cl.imp (c : Cl P w K mg base k x sp) (h : ∀ vs H Q E, sp' vs H Q E → sp vs H Q E) : Cl P w K mg base k x sp' := by
  obtain ⟨f, F, hm, kp⟩ := c.ex
  exact ⟨f, F.imp h, hm, kp⟩
end
def CPowG (i j : Int) : Prop := 0 ≤ j ∧ (Builtin.Int.intBits i : Int) * j ≤ 2 ^ 27
section
variable {X : Cx}
theorem op_powG : OpR X (binaryOp .Pow) (rI CPowG fun i j => .int (i ^ j.toNat)) := opI fun _ _ _ _ _ _ _ hc q => PyProof.Rows.pow_int hc.1 hc.2 q

/-! a tuple turned round -/
theorem pick_back (xs : Array Value) : ((List.range xs.size).filterMap fun (m : Nat) => xs[(((xs.size : Int) - 1) + (m : Int) * (-1)).toNat]?).toArray = xs.toList.reverse.toArray := by
  congr 1
  have h : ∀ m ∈ List.range xs.size, xs[(((xs.size : Int) - 1) + (m : Int) * (-1)).toNat]? = some (xs.toList.reverse.getD m .none) := fun m hm => by
    have hm := List.mem_range.mp hm
    have e : (((xs.size : Int) - 1) + (m : Int) * (-1)).toNat = xs.size - 1 - m := by omega
    rw [e, List.getD_eq_getElem?_getD, List.getElem?_reverse (by rw [Array.length_toList]; exact hm), Array.length_toList, Array.getElem?_toList, Array.getElem?_eq_getElem (by omega)]
    rfl
  have h2 : ∀ l : List Nat, (∀ m ∈ l, xs[(((xs.size : Int) - 1) + (m : Int) * (-1)).toNat]? = some (xs.toList.reverse.getD m .none)) → l.filterMap (fun (m : Nat) => xs[(((xs.size : Int) - 1) + (m : Int) * (-1)).toNat]?) = l.map fun m => xs.toList.reverse.getD m .none := fun l => by
    induction l with
    | nil => intro _; rfl
    | cons a l ih => intro hl; rw [List.filterMap_cons, hl a List.mem_cons_self, List.map_cons, ih fun m hm => hl m (List.mem_cons_of_mem _ hm)]
  rw [h2 _ h]
  refine List.ext_getElem? fun i => ?_
  rw [List.getElem?_map]
  by_cases hi : i < xs.size
  · rw [List.getElem?_range hi]
    show some (xs.toList.reverse.getD i .none) = _
    rw [List.getD_eq_getElem?_getD, List.getElem?_eq_getElem (by rw [List.length_reverse, Array.length_toList]; exact hi)]
    rfl
  · rw [List.getElem?_eq_none (by rw [List.length_range]; omega), List.getElem?_eq_none (by rw [List.length_reverse, Array.length_toList]; omega)]
    rfl
theorem back_applied {prog : Program} {w : World} {A : Around} {E : Value → Shared → Prop} {s : Shared} {sl : Addr} {vs : Value} {n : Nat} {Q : Int × Int × Nat → Shared → Prop} (hs : s.heap.IsSliceOf sl .none .none vs) (pv : IsPart vs (some (-1)))
    (h : Q (((n : Int) - 1), -1, n) s) : wpAny (model prog w) A (Builtin.Slice.sliceApplied (.ref sl) (pure (n : Int))) Q E s := by
  obtain ⟨os, ho, hcl, hda⟩ := id hs
  unfold Builtin.Slice.sliceApplied Builtin.Slice.sliceFields
  refine wpAny_bind (wpAny_bind (wpAny_field ho hda (x := .none) rfl (wpAny_bind (wpAny_field ho hda (x := .none) rfl (wpAny_bind (wpAny_field ho hda (x := vs) rfl (wpAny_pure ?_)))))))
  refine wpAny_bind (slicePart_ pv ?_)
  show wpAny _ _ (if ((-1 : Int) == 0) = true then _ else _) _ _ s
  rw [if_neg (by decide)]
  refine wpAny_bind (slicePart_none (wpAny_bind (slicePart_none (wpAny_bind (wpAny_pure ?_)))))
  have e1 : Builtin.Slice.sliceAdjust none none (-1) (n : Int) = ((n : Int) - 1, -1) := by
    unfold Builtin.Slice.sliceAdjust
    simp
  have e2 : Builtin.Slice.slicePlaces ((n : Int) - 1) (-1) (-1) = n := by
    unfold Builtin.Slice.slicePlaces
    simp
    omega
  show wpAny _ _ (match Builtin.Slice.sliceAdjust none none (-1) (n : Int) with | (a, b) => pure (a, (-1 : Int), Builtin.Slice.slicePlaces a b (-1))) _ _ s
  rw [e1]
  show wpAny _ _ (pure ((n : Int) - 1, (-1 : Int), Builtin.Slice.slicePlaces ((n : Int) - 1) (-1) (-1))) _ _ s
  rw [e2]
  exact wpAny_pure h
/-- t * k where t is empty or k is 1: t itself -/
theorem tup_mul_same (l : Addr) (items : Array Value) (n : Nat) (dd : Option Addr) (sl : Array (Option Value)) (x : Int) (u : Tok) (z0 : (decide (x < -(2 ^ 63)) || decide (x ≥ 2 ^ 63)) = false) (z1 : (items.isEmpty || x == 1) = true) :
    Meets (Builtin.«tuple.__mul__» ⟨[.ref l, .int x u], []⟩) (fun _ R s => s.heap.get? l = some { cls := .type "tuple", dict := dd, data := .seq items n, slots := sl } ∧ R (.ok (.ret (Value.ref l))) s) :=
  .of_wp fun prog w A R s h => by
    obtain ⟨hp, g, d, tk, os⟩ := s
    obtain ⟨hl, h⟩ := h
    have f1 := AutoSeq1.idx_int
    wp_walk using wpAny_loadPart' hl
    repeat (first
      | (refine wpAny_ite_false (decide_eq_false (by rw [z0]; exact Bool.false_ne_true)) ?_; wp_walk using wpAny_loadPart' hl)
      | (refine wpAny_ite_true (decide_eq_true z1) ?_; wp_walk using wpAny_loadPart' hl))
    exact ⟨_, rfl, h⟩
/-- t * k, k from 1 to 1000, t any tuple of at most 1000 -/
def rRepA (K : PySem.W.Frag) : R2 := fun x y H Q => ∃ l k xs, x = .ref l ∧ y = .int k ∧ SqT K H l xs ∧ 1 ≤ k ∧ k ≤ 1000 ∧ xs.length ≤ 1000 ∧
  (xs = [] ∨ k = 1 → Q (.ref l) H) ∧ (xs ≠ [] → 2 ≤ k → ∀ p, H p = none → Q (.ref p) (upd H p (.tup (List.replicate k.toNat xs).flatten)))
theorem op_repA : OpR X (binaryOp .Mult) (rRepA X.K) := by
  intro pn s sg H x y v u Q I rx ry h
  obtain ⟨l, k, xs, ex, ey, hT, k1, k2, hz, q1, q2⟩ := h
  by_cases hc : xs = [] ∨ k = 1
  · subst ex ey
    have q := q1 hc
    cases rx
    obtain ⟨t, rfl⟩ := ry
    obtain ⟨its, r, ⟨⟨cls, dd, data, sl⟩, ho, hcl, n, hd⟩, _⟩ := I.tuple hT
    simp only at hcl hd
    subst hcl hd
    have z0 : (decide (k < -(2 ^ 63)) || decide (k ≥ 2 ^ 63)) = false := by
      rw [decide_eq_false (by omega), decide_eq_false (by omega)] <;> rfl
    have z1 : (its.toArray.isEmpty || k == 1) = true := by
      rcases hc with e | e
      · subst e
        cases r
        rfl
      · rw [e, Bool.or_eq_true]
        exact .inr rfl
    exact wpAny_binaryOp_repeat_ref (T := "tuple") (U := "int") (by decide) ⟨_, ho, rfl⟩ (fun s' => typeIs_int s' k t) noFill_tuple_mul F.fills_int_mul F.slot_int_rmul repeat_tuple F.slot_int_index.lookup
      (call_meets F.slot_int_rmul (typeIs_int s k t) F.entry_int_rmul (F.args_int_rmul_2 _ _) (int_rmul_tuple k t l its.toArray n dd sl)
        ⟨ho, rfl, ⟨_, ho, rfl⟩, call_meets F.slot_tuple_mul ⟨_, ho, rfl⟩ F.entry_tuple_mul (F.args_tuple_mul_2 _ _) (tup_mul_same l its.toArray n dd sl k t z0 z1) ⟨ho, ⟨.ref l, H, I, rfl, q⟩⟩⟩)
  · have hn : xs ≠ [] := fun e => hc (.inl e)
    have h2 : k ≠ 1 := fun e => hc (.inr e)
    exact op_repT pn s sg H x y v u Q I rx ry ⟨l, k, xs, ex, ey, hT, hn, by omega, k2, hz, q2 hn (by omega)⟩

/-! t[::-1] -/
theorem tup_back {prog : Program} {w : World} {A : Around} {E : Value → Shared → Prop} {s : Shared} {t sl : Addr} {items : Array Value} {vs : Value} {Q : Value → Shared → Prop} (ht : IsTup s.heap t items) (hs : s.heap.IsSliceOf sl .none .none vs) (pv : IsPart vs (some (-1)))
    (h : Q (.ref s.heap.objs.size) { s with heap := s.heap.push { cls := .type "tuple", data := .seq items.toList.reverse.toArray } }) (hz : items.size ≤ sizeLine) : wpAny (model prog w) A (getItem (.ref t) (.ref sl)) Q E s := by
  have fit : sizeOk (.seq items.toList.reverse.toArray) := by
    show items.toList.reverse.toArray.size ≤ sizeLine
    rw [List.size_toArray, List.length_reverse, Array.length_toList]
    exact hz
  obtain ⟨os, ho, hcl, hda⟩ := id hs
  have hTy : s.TypeIs (.ref sl) "slice" := ⟨os, ho, hcl⟩
  unfold getItem
  try with_reducible refine wpAny_holding ?_
  first | refine wpAny_bind (wpAny_pure ?_) | skip
  refine wpAny_bind (wpAny_sequenceKey ht.typeIs (by decide) ?_)
  refine wpAny_bind (wpAny_callSpecial?_slot (name := Str.ofString "__getitem__") ht.typeIs PyProof.Rows.slot_tuple_getitem (wpAny_call_entry PyProof.Rows.slot_tuple_getitem ht.typeIs entry_tuple_getitem ?_ (args_tuple_getitem _ _)))
  show wpAny _ _ (Builtin.Tuple.tupleItemsOf (.ref t) >>= _) _ _ s
  refine wpAny_bind (tupleItemsOf_ ht (wpAny_bind (wpAny_typeOf hTy ?_)))
  rw [if_pos (by decide)]
  refine wpAny_bind (back_applied hs pv ?_)
  have hno : ¬ ((((items.size : Int) - 1) == 0 && (-1 : Int) == 1 && items.size == items.size) = true) := by
    rw [show ((-1 : Int) == 1) = false from rfl, Bool.and_false, Bool.false_and]
    exact Bool.false_ne_true
  show wpAny _ _ (if (((items.size : Int) - 1) == 0 && (-1 : Int) == 1 && items.size == items.size) = true then _ else _) _ _ s
  rw [if_neg hno, pick_back]
  first
    | exact wpAny_bind (m := Builtin.Tuple.tupleExact _) (wpAny_newObj_type (wpAny_pure ⟨_, rfl, wpAny_pure h⟩) fit)
    | exact wpAny_bind (m := Builtin.Tuple.tupleExact _) (wpAny_newObj_type (wpAny_bind (wpAny_pure (wpAny_pure ⟨_, rfl, wpAny_pure h⟩))) fit)
    | exact wpAny_bind (wpAny_bind (m := Builtin.Tuple.tupleExact _) (wpAny_newObj_type (wpAny_pure (wpAny_pure ⟨_, rfl, wpAny_pure h⟩)) fit))
    | exact wpAny_bind (wpAny_bind (m := Builtin.Tuple.tupleExact _) (wpAny_newObj_type (wpAny_pure ⟨_, rfl, wpAny_pure h⟩) fit))
def tRevT (K : PySem.W.Frag) (te : TE) : TE := fun σ H Q => te σ H fun x H1 => ∃ a xs, x = .ref a ∧ SqT K H1 a xs ∧ ∀ p, H1 p = none → Q (.ref p) (upd H1 p (.tup xs.reverse))
theorem pe_revT {e : Expr} {te : TE} {k : Nat} {p1 p2 p3 pos : Pos} (he : PE X e te) : PE X (.Subscript e (.Slice none none (some (.UnaryOp .USub (.Constant (.int 1) k p1) p2)) p3) pos) (tRevT X.K te) := by
  refine ⟨fun pn s sg H Q I h => ?_⟩
  refine Subscript_ (thn (he.run pn s sg H _ I h) fun v s1 ⟨x, H1, I1, r1, q1⟩ => ?_)
  obtain ⟨a, xs, ex, hx, q⟩ := q1
  subst ex
  cases r1
  have hst : PO X (some (.UnaryOp .USub (.Constant (.int 1) k p1) p2)) (tPart (tUn (rU fun i => .int (-i)) (tC (.int 1)))) := po_some (pe_un un_neg pe_int)
  refine wpAny_Slice (thn (po_none.run pn s1 sg H1 (fun o H2 => o = none ∧ H2 = H1) I1 ⟨rfl, rfl⟩) fun vl s2 ⟨l, H2, I2, pl, el, e2⟩ => ?_)
  subst el e2
  refine thn (po_none.run pn s2 sg H2 (fun o H3 => o = none ∧ H3 = H2) I2 ⟨rfl, rfl⟩) fun vu s3 ⟨u, H3, I3, pu, eu, e3⟩ => ?_
  subst eu e3
  refine thn (hst.run pn s3 sg H3 (fun o H4 => o = some (-1) ∧ H4 = H3) I3 ⟨1, rfl, -1, rfl, rfl, rfl⟩) fun vs s4 ⟨o, H4, I4, ps, eo, e4⟩ => ?_
  subst eo e4
  cases pl
  cases pu
  have I5 : Inv X pn sg H4 { s4 with heap := s4.heap.push { cls := .type "slice", data := .fields #[.none, .none, vs] } } := I4.kept (t' := s4.toks) fun b ob q => Heap.get?_push_of_some _ q
  obtain ⟨its, r, ht, hz⟩ := I5.tuple hx
  have hlen := r.length
  show wpAny (model X.prog X.w) X.A (subscriptTail e (.Slice none none (some (.UnaryOp .USub (.Constant (.int 1) k p1) p2)) p3) (.ref a) (.ref s4.heap.objs.size)) (EP X pn sg Q) X.xe { s4 with heap := s4.heap.push { cls := .type "slice", data := .fields #[.none, .none, vs] } }
  refine tail_any (ops := [.ref a, .ref s4.heap.objs.size]) ht.typeIs (PyProof.Rows.slot_tuple_getitem.lookup) ?_ (by with_unfolding_all rfl)
  refine tup_back ht (Heap.IsSliceOf.new _ .none .none vs) ps ?_ (by rw [List.size_toArray]; omega)
  refine ⟨.ref _, _, I5.laid (t' := s4.toks) (o := .tup xs.reverse) (fun b ob q => Heap.get?_push_of_some _ q) (Nat.le_refl _) ?_, rfl, q _ (I5.hok.fresh (Nat.le_refl _))⟩
  exact ⟨by rw [List.length_reverse]; exact hz, _, r.reverse, IsTup.new _ _⟩
end
end N0
namespace N0
open PySem
theorem bo_len : bootBuiltins "len" = some (.builtin "len") := by decide +kernel
theorem bo_abs : bootBuiltins "abs" = some (.builtin "abs") := by decide +kernel
theorem bo_max : bootBuiltins "max" = some (.builtin "max") := by decide +kernel
theorem bo_min : bootBuiltins "min" = some (.builtin "min") := by decide +kernel
theorem bo_all : bootBuiltins "all" = some (.builtin "all") := by decide +kernel
theorem bo_any : bootBuiltins "any" = some (.builtin "any") := by decide +kernel
theorem bo_sum : bootBuiltins "sum" = some (.builtin "sum") := by decide +kernel
theorem bo_isinstance : bootBuiltins "isinstance" = some (.builtin "isinstance") := by decide +kernel
theorem bo_int : bootBuiltins "int" = some (.type "int") := by decide +kernel
theorem bo_bool : bootBuiltins "bool" = some (.type "bool") := by decide +kernel
theorem bo_str : bootBuiltins "str" = some (.type "str") := by decide +kernel
theorem bo_list : bootBuiltins "list" = some (.type "list") := by decide +kernel
theorem bo_tuple : bootBuiltins "tuple" = some (.type "tuple") := by decide +kernel
end N0
namespace N0
open PySem PySem.Spec PyProof.Rows L2 HT
/-! the rules over the written part, this one said by name -/
theorem rel_ty {n : String} : RelV (.ty n) (.type n) := rfl
theorem rel_int {i : Int} {t : Tok} : RelV (.int i) (.int i t) := ⟨_, rfl⟩
section
variable {X : Cx} {K : PySem.W.Frag}
theorem kix_tup (h : X.K = K := by rfl) : IxR X (rIxT K) := h ▸ ix_tup
theorem kix_list (h : X.K = K := by rfl) : IxR X (rIxL K) := h ▸ ix_list
theorem ksl_tupA (h : X.K = K := by rfl) : SlR X (rSlA K) := h ▸ sl_tupA
theorem ksl_list (h : X.K = K := by rfl) : SlR X (rSlL K) := h ▸ sl_list
theorem kop_catA (h : X.K = K := by rfl) : OpR X (binaryOp .Add) (rCatA K) := h ▸ op_catA
theorem kop_repA (h : X.K = K := by rfl) : OpR X (binaryOp .Mult) (rRepA K) := h ▸ op_repA
theorem kop_eqD (hu : X.A.units + 64 < cLine) (h : X.K = K := by rfl) : OpR X (compareOp .Eq) (rEqD K) := h ▸ op_eqD hu
theorem kop_neD (hu : X.A.units + 64 < cLine) (h : X.K = K := by rfl) : OpR X (compareOp .NotEq) (rNeD K) := h ▸ op_neD hu
theorem kcall_isi (h : X.K = K := by rfl) : CallR X (.builtin "isinstance") (rIsi K) := h ▸ call_isi
theorem kcr_all (hc : X.calm = true) (h : X.K = K := by rfl) : CallR X (.builtin "all") (rAll K) := h ▸ cr_all hc
theorem kcr_any (hc : X.calm = true) (h : X.K = K := by rfl) : CallR X (.builtin "any") (rAny K) := h ▸ cr_any hc
theorem kcr_sum (hc : X.calm = true) (h : X.K = K := by rfl) : CallR X (.builtin "sum") (rSum K) := h ▸ cr_sum hc
theorem kcr_min (hc : X.calm = true) (h : X.K = K := by rfl) : CallR X (.builtin "min") (rMin K) := h ▸ cr_min hc
def rLen (K : PySem.W.Frag) : List V → Hp → VK → Prop := fun xs H Q => ∃ p ys, xs = [.ref p] ∧ (SqL K H p ys ∨ SqT K H p ys) ∧ Q (.int ys.length) H
theorem kcall_len (h : X.K = K := by rfl) : CallR X (.builtin "len") (rLen K) := h ▸ call_len_seq
def rListOf (K : PySem.W.Frag) : List V → Hp → VK → Prop := fun xs H Q => ∃ p ys, xs = [.ref p] ∧ (SqL K H p ys ∨ SqT K H p ys) ∧ ∀ l, H l = none → Q (.ref l) (upd H l (.lst ys))
theorem kcall_list (h : X.K = K := by rfl) : CallR X (.type "list") (rListOf K) := h ▸ call_list_of
def rTupOf (K : PySem.W.Frag) : List V → Hp → VK → Prop := fun xs H Q => ∃ p ys, xs = [.ref p] ∧ ((SqL K H p ys ∧ ∀ l, H l = none → Q (.ref l) (upd H l (.tup ys))) ∨ (SqT K H p ys ∧ Q (.ref p) H))
theorem kcall_tuple (h : X.K = K := by rfl) : CallR X (.type "tuple") (rTupOf K) := h ▸ call_tuple_of
variable {tg l : Expr} {tl : TE}
theorem kpi_list (hl : PE X l tl) (h : X.K = K := by rfl) : PI X tg l (iList K tl) := h ▸ pi_list hl
theorem kpi_tup (hl : PE X l tl) (h : X.K = K := by rfl) : PI X tg l (iTup K tl) := h ▸ pi_tup hl
theorem kpt_truth {a : Expr} {ta : TE} (ha : PE X a ta) (he : ∀ whole, isTrue a X.env whole = (do let v ← whole; standAt a.pos; holding [v] (truthy v))) (h : X.K = K := by rfl) :
    PT X a (fun σ H Q => ta σ H fun x H' => ∃ k, TruV K x H' k ∧ Q k H') := h ▸ pt_truth ha he
theorem kpe_revT {e : Expr} {te : TE} {k : Nat} {p1 p2 p3 pos : Pos} (he : PE X e te) (h : X.K = K := by rfl) : PE X (.Subscript e (.Slice none none (some (.UnaryOp .USub (.Constant (.int 1) k p1) p2)) p3) pos) (tRevT K te) := h ▸ pe_revT he
theorem kpg_tup {es : List Expr} {k : Nat} {t : TGs} {n : Nat} {pos : Pos} (hc : X.calm = true) (hh : PGs X es t) (h : X.K = K := by rfl)
    (hn : (assignEach es X.env).length = n := by rfl) (hst : (assignEach es X.env).findIdx? (·.1) = none := by rfl) : PG X (.Tuple es k pos) (gTup K n t) := h ▸ pg_tup hc hh hn hst
end
end N0

namespace N0
open PySem PySem.Spec PyProof.Rows L2 HT
/-! ### what stays: all but a sack of three numbers -/
def Sk (H : Hp) : Option Addr → Prop
  | none => True
  | some s => ∃ a b c : Int, H s = some (.lst [.int a, .int b, .int c])
structure Rs (S : Option Addr) (H H' : Hp) : Prop where
  s0 : Sk H S
  s1 : Sk H' S
  keep : ∀ a o, S ≠ some a → H a = some o → H' a = some o
section
variable {S : Option Addr} {H H1 H2 : Hp} {K : PySem.W.Frag} {a p : Addr} {xs : List V} {o : HO}
theorem Rs.of (h : Sk H S) : Rs S H H := ⟨h, h, fun _ _ _ e => e⟩
theorem Rs.r1 (r : Rs S H H1) : Rs S H1 H1 := .of r.s1
theorem Rs.tr (r : Rs S H H1) (q : Rs S H1 H2) : Rs S H H2 := ⟨r.s0, q.s1, fun a o n e => q.keep a o n (r.keep a o n e)⟩
theorem Sk.same (h : Sk H S) (e : Same H H1) : Sk H1 S := by
  cases S with
  | none => exact True.intro
  | some s => obtain ⟨a, b, c, q⟩ := h; exact ⟨a, b, c, e _ _ q⟩
theorem Rs.same (h : Sk H S) (e : Same H H1) : Rs S H H1 := ⟨h, h.same e, fun a o _ q => e a o q⟩
theorem Rs.to (r : Rs none H H1) : Same H H1 := fun a o e => r.keep a o (fun q => nomatch q) e
theorem Sk.ne (r : Sk H S) (h : H a = some o) (hn : ∀ ys, o ≠ .lst ys) : S ≠ some a := fun q => by
  subst q
  obtain ⟨x, y, z, e⟩ := r
  rw [h] at e
  cases e
  exact hn _ rfl
theorem Rs.tup (r : Rs S H H1) (h : SqT K H a xs) : SqT K H1 a xs := by
  rcases h with (h | ⟨o, h⟩) | h
  · exact .inl (.inl (r.keep _ _ (r.s0.ne h fun _ q => nomatch q) h))
  · exact .inl (.inr ⟨o, r.keep _ _ (r.s0.ne h fun _ q => nomatch q) h⟩)
  · exact .inr h
theorem Rs.lst (r : Rs S H H1) (n : S ≠ some a) (h : SqL K H a xs) : SqL K H1 a xs := by
  rcases h with (h | ⟨o, h⟩) | h
  · exact .inl (.inl (r.keep _ _ n h))
  · exact .inl (.inr ⟨o, r.keep _ _ n h⟩)
  · exact .inr h
theorem new_same (hp : H p = none) : Same H (upd H p o) := fun b u e => by
  rw [upd_ne (ne_of_none e hp)]
  exact e
theorem same_tup (e : Same H H1) (h : SqT K H a xs) : SqT K H1 a xs := (Rs.same (S := none) True.intro e).tup h
/-- a thing that was not there may change -/
theorem same_mut (e : Same H H1) (hp : H p = none) : Same H (upd H1 p o) := fun b u q => by
  rw [upd_ne (ne_of_none q hp)]
  exact e b u q
theorem tup_of (h : H a = some (.tup xs)) : SqT K H a xs := .inl (.inl h)
theorem lst_of (h : H a = some (.lst xs)) : SqL K H a xs := .inl (.inl h)
theorem Rs.fresh (r : Rs S H H1) (hp : H1 p = none) (h0 : H p = none ∨ S = some p ∨ True) : S ≠ some p := fun q => by
  subst q
  obtain ⟨x, y, z, e⟩ := r.s1
  rw [hp] at e
  cases e
end

/-! ### kinds of values -/
/-- an entry of a tuple: a number, or something else -/
inductive En (K : PySem.W.Frag) (H : Hp) : V → Option Int → Prop
  | int (i : Int) : En K H (.int i) (some i)
  | oth {v : V} {t : String} {i b : Bool} (h : TyX K H v (.type t)) (k1 : kitB t "int" = some i) (k2 : kitB t "bool" = some b) (k3 : (i && !b) = false) : En K H v none
/-- a value: a tuple of entries, or something else -/
inductive Va (K : PySem.W.Frag) (H : Hp) : V → Option (List (Option Int)) → Prop
  | tup {a : Addr} {xs : List V} {os : List (Option Int)} (h : SqT K H a xs) (hl : xs.length = os.length) (he : ∀ (j : Nat) x o, xs[j]? = some x → os[j]? = some o → En K H x o) : Va K H (.ref a) (some os)
  | oth {v : V} {t : String} (h : TyX K H v (.type t)) (k : kitB t "tuple" = some false) : Va K H v none
section
variable {K : PySem.W.Frag} {H H1 : Hp}
theorem tyx_same {v : V} {t : Value} (e : Same H H1) (h : TyX K H v t) : TyX K H1 v t := by
  cases h with
  | base b =>
    refine .base ?_
    cases b with
    | non => exact .non
    | bl y => exact .bl y
    | int i => exact .int i
    | str y => exact .str y
    | flt y => exact .flt y
    | lst ea => exact .lst (e _ _ ea)
    | frz ea => exact .frz (e _ _ ea)
    | tup ea => exact .tup (e _ _ ea)
    | dK ea => exact .dK (e _ _ ea)
    | dT ea => exact .dT (e _ _ ea)
    | ins ea cl ha hn htk hm => exact .ins (e _ _ ea) cl ha hn htk hm
  | byt b => exact .byt b
  | set ea => exact .set (e _ _ ea)
  | kList ea c => exact .kList ea c
  | kTuple ea c => exact .kTuple ea c
  | kDict ea c => exact .kDict ea c
  | fTuple ea => exact .fTuple (e _ _ ea)
  | fDict ea => exact .fDict (e _ _ ea)
theorem En.same {v : V} {o : Option Int} (e : Same H H1) (h : En K H v o) : En K H1 v o := by
  cases h with
  | int i => exact .int i
  | oth h k1 k2 k3 => exact .oth (tyx_same e h) k1 k2 k3
theorem tyx_tup {a : Addr} {xs : List V} (h : SqT K H a xs) : TyX K H (.ref a) (.type "tuple") := by
  rcases h with (h | ⟨o, h⟩) | ⟨o, its, n, hk, hc, _⟩
  · exact .base (.tup h)
  · exact .fTuple h
  · exact .kTuple hk hc
/-- whether an entry is a letter or a contrary -/
def okE (n : Int) : Option Int → Bool
  | some i => decide (1 ≤ (if i < 0 then -i else i)) && decide ((if i < 0 then -i else i) ≤ n)
  | none => false
def intsOf : List (Option Int) → List Int
  | [] => []
  | some i :: r => i :: intsOf r
  | none :: r => intsOf r
/-- no entry beside its opposite, as the program asks it -/
def nfB (ns : List Int) : Bool := (List.range (ns.length - 1)).all fun j => !decide (ns.getD j 0 = - ns.getD (j + 1) 0)
def rowB (n m : Int) (os : List (Option Int)) : Bool := !decide (m < os.length) && os.all (okE n)
def bareB (n m : Int) (os : List (Option Int)) : Bool := rowB n m os && nfB (intsOf os)
theorem intsOf_some (ns : List Int) : intsOf (ns.map some) = ns := by
  induction ns with
  | nil => rfl
  | cons a l ih => show a :: intsOf (l.map some) = a :: l; rw [ih]
theorem all_some {n : Int} : ∀ {os : List (Option Int)}, os.all (okE n) = true → os = (intsOf os).map some
  | [], _ => rfl
  | some i :: r, h => by
    rw [List.all_cons, Bool.and_eq_true] at h
    show some i :: r = some i :: (intsOf r).map some
    rw [← all_some h.2]
  | none :: r, h => by
    rw [List.all_cons, Bool.and_eq_true] at h
    exact absurd h.1 Bool.false_ne_true
/-- a tuple of numbers as a value -/
theorem va_ints {a : Addr} {ns : List Int} (h : SqT K H a (ns.map V.int)) : Va K H (.ref a) (some (ns.map some)) := by
  refine .tup h (by rw [List.length_map, List.length_map]) fun j x o hx ho => ?_
  rw [List.getElem?_map] at hx ho
  cases q : ns[j]? with
  | none => rw [q] at hx; cases hx
  | some i =>
    rw [q] at hx ho
    cases hx
    cases ho
    exact .int i
theorem nfB_iff : ∀ {ns : List Int}, nfB ns = true ↔ Fr.Nf ns := by
  have key : ∀ ns : List Int, Fr.Nf ns ↔ ∀ j, j < ns.length - 1 → ns.getD j 0 ≠ - ns.getD (j + 1) 0 := fun ns => by
    induction ns with
    | nil => exact ⟨fun _ j hj => absurd hj (Nat.not_lt_zero _), fun _ => True.intro⟩
    | cons x t ih =>
      cases t with
      | nil => exact ⟨fun _ j hj => absurd hj (Nat.not_lt_zero _), fun _ => True.intro⟩
      | cons y t =>
        constructor
        · intro h j hj
          cases j with
          | zero => exact h.1
          | succ j =>
            have := (ih.mp h.2) j (by simp at hj ⊢; omega)
            exact this
        · intro h
          refine ⟨h 0 (by simp), ih.mpr fun j hj => ?_⟩
          exact h (j + 1) (by simp at hj ⊢; omega)
  intro ns
  rw [key ns]
  unfold nfB
  rw [List.all_eq_true]
  constructor
  · intro h j hj
    have := h j (List.mem_range.mpr hj)
    rw [Bool.not_eq_true'] at this
    exact of_decide_eq_false this
  · intro h j hj
    rw [Bool.not_eq_true']
    exact decide_eq_false (h j (List.mem_range.mp hj))
/-- letters and contraries of n letters -/
def Lt (n : Int) (ns : List Int) : Prop := ∀ i ∈ ns, i ≠ 0 ∧ -n ≤ i ∧ i ≤ n
/-- a word of n letters -/
structure Wd (n : Int) (ns : List Int) : Prop where
  lt : Lt n ns
  nf : Fr.Nf ns
theorem okE_lt {n : Int} {ns : List Int} (h : Lt n ns) : (ns.map some).all (okE n) = true := by
  rw [List.all_eq_true]
  intro o ho
  obtain ⟨i, hi, rfl⟩ := List.mem_map.mp ho
  obtain ⟨h0, h1, h2⟩ := h i hi
  show (decide _ && decide _) = true
  rw [Bool.and_eq_true]
  refine ⟨decide_eq_true ?_, decide_eq_true ?_⟩ <;> split <;> omega
theorem lt_okE {n : Int} {ns : List Int} (h : (ns.map some).all (okE n) = true) : Lt n ns := fun i hi => by
  have := List.all_eq_true.mp h (some i) (List.mem_map.mpr ⟨i, hi, rfl⟩)
  have h2 : (decide (1 ≤ (if i < 0 then -i else i)) && decide ((if i < 0 then -i else i) ≤ n)) = true := this
  rw [Bool.and_eq_true] at h2
  have a1 := of_decide_eq_true h2.1
  have a2 := of_decide_eq_true h2.2
  split at a1 <;> split at a2 <;> omega
theorem row_wd {n m : Int} {ns : List Int} (h : Lt n ns) (hm : (ns.length : Int) ≤ m) : rowB n m (ns.map some) = true := by
  unfold rowB
  rw [okE_lt h, List.length_map, Bool.and_true, Bool.not_eq_true']
  exact decide_eq_false (by omega)
theorem bare_wd {n m : Int} {ns : List Int} (h : Wd n ns) (hm : (ns.length : Int) ≤ m) : bareB n m (ns.map some) = true := by
  unfold bareB
  rw [row_wd h.lt hm, intsOf_some, nfB_iff.mpr h.nf]
  rfl
theorem lt_app {n : Int} {a b : List Int} (ha : Lt n a) (hb : Lt n b) : Lt n (a ++ b) := fun i hi => by
  rcases List.mem_append.mp hi with h | h
  · exact ha i h
  · exact hb i h
theorem lt_push {n e : Int} {s : List Int} (he : e ≠ 0 ∧ -n ≤ e ∧ e ≤ n) (hs : Lt n s) : Lt n (Fr.push e s) := by
  cases s with
  | nil => intro i hi; rw [List.mem_singleton.mp hi]; exact he
  | cons x t =>
    by_cases hx : x = -e
    · rw [Fr.push_eq hx]; exact fun i hi => hs i (List.mem_cons_of_mem _ hi)
    · rw [Fr.push_on hx]
      intro i hi
      rcases List.mem_cons.mp hi with h | h
      · rw [h]; exact he
      · exact hs i h
theorem lt_act {n : Int} : ∀ {w s : List Int}, Lt n w → Lt n s → Lt n (Fr.act w s)
  | [], _, _, hs => hs
  | e :: w, _, hw, hs => lt_act (w := w) (fun i hi => hw i (List.mem_cons_of_mem _ hi)) (lt_push (hw e List.mem_cons_self) hs)
theorem lt_rev {n : Int} {w : List Int} (h : Lt n w) : Lt n w.reverse := fun i hi => h i (List.mem_reverse.mp hi)
theorem lt_nil {n : Int} : Lt n [] := fun _ h => nomatch h
theorem wd_red {n : Int} {w : List Int} (h : Lt n w) : Wd n (Fr.red w) := ⟨lt_rev (lt_act h lt_nil), Fr.red_nf w⟩
theorem lt_opp {n : Int} {w : List Int} (h : Lt n w) : Lt n (Fr.opp w) := fun i hi => by
  unfold Fr.opp at hi
  obtain ⟨j, hj, e⟩ := List.mem_map.mp (List.mem_reverse.mp hi)
  have := h j hj
  omega
theorem len_push (e : Int) (s : List Int) : (Fr.push e s).length ≤ s.length + 1 := by
  cases s with
  | nil => exact Nat.le_refl _
  | cons x t =>
    by_cases hx : x = -e
    · rw [Fr.push_eq hx]; simp; omega
    · rw [Fr.push_on hx]; simp
theorem len_act : ∀ (w s : List Int), (Fr.act w s).length ≤ s.length + w.length
  | [], s => Nat.le_refl _
  | e :: w, s => by
    have h1 := len_act w (Fr.push e s)
    have h2 := len_push e s
    show (Fr.act w (Fr.push e s)).length ≤ _
    rw [List.length_cons]
    omega
theorem len_red (w : List Int) : (Fr.red w).length ≤ w.length := by
  have := len_act w []
  unfold Fr.red
  rw [List.length_reverse]
  simpa using this
end
/-! ### equality of tuples of numbers -/
theorem eqv_ints : ∀ a b : List Int, PyData.eqvAll (a.map PyData.int) (b.map PyData.int) = decide (a = b)
  | [], [] => rfl
  | [], _ :: _ => rfl
  | _ :: _, [] => rfl
  | x :: a, y :: b => by
    show (PyData.eqv (.int x) (.int y) && PyData.eqvAll (a.map PyData.int) (b.map PyData.int)) = _
    rw [eqv_ints a b]
    show ((x == y) && decide (a = b)) = decide (x :: a = y :: b)
    by_cases h : x = y
    · subst h
      by_cases h2 : a = b
      · subst h2; simp
      · simp [h2]
    · simp [h]
theorem eqv_tup (a b : List Int) : PyData.eqv (.tuple (a.map .int)) (.tuple (b.map .int)) = decide (a = b) := eqv_ints a b
theorem canLay_ints : ∀ a : List Int, PyData.canLayAll0 (a.map PyData.int) = true
  | [] => rfl
  | x :: a => by
    show (PyData.canLay0 (.int x) && PyData.canLayAll0 (a.map PyData.int)) = true
    rw [canLay_ints a]
    rfl
theorem dp_ints {K : PySem.W.Frag} {H : Hp} : ∀ ns : List Int, DpAll K H (ns.map V.int) (ns.map PyData.int)
  | [] => .nil
  | x :: a => .cons (.int x) (dp_ints a)
theorem dp_tup {K : PySem.W.Frag} {H : Hp} {a : Addr} {ns : List Int} (h : SqT K H a (ns.map V.int)) : Dp K H (.ref a) (.tuple (ns.map .int)) := .tup h (dp_ints ns)
end N0

namespace N0
open PySem PySem.Spec PyProof.Rows L2 HT
section
variable {K : PySem.W.Frag} {H : Hp} {a b : Addr} {ns ms : List Int} {Q : VK}
def cutI (ns : List Int) (lo hi : Option Int) : List Int := (ns.drop (sIx ns.length 0 lo)).take (sIx ns.length ns.length hi - sIx ns.length 0 lo)
theorem cut_map (ns : List Int) (lo hi : Option Int) : cutV (ns.map V.int) lo hi = (cutI ns lo hi).map V.int := by
  unfold cutV cutI
  rw [List.map_take, List.map_drop, List.length_map]
theorem sl_ints {lo hi : Option Int} (h : SqT K H a (ns.map V.int)) (k : ∀ H' p, Same H H' → SqT K H' p ((cutI ns lo hi).map V.int) → Q (.ref p) H') : rSlA K (.ref a) lo hi H Q := by
  refine ⟨a, _, rfl, h, fun hw => k _ _ (Same.refl _) ?_, fun _ p hp => k _ _ (new_same hp) (tup_of (by rw [upd_same, cut_map]))⟩
  rw [List.length_map] at hw
  unfold cutI
  rw [hw.1, hw.2, List.drop_zero, Nat.sub_zero, List.take_length]
  exact h
theorem cat_ints (h : SqT K H a (ns.map V.int)) (h2 : SqT K H b (ms.map V.int)) (hz : ns.length + ms.length ≤ 100000) (k : ∀ H' p, Same H H' → SqT K H' p ((ns ++ ms).map V.int) → Q (.ref p) H') : rCatA K (.ref a) (.ref b) H Q := by
  refine ⟨a, b, _, _, rfl, rfl, h, h2, ?_, fun e => k _ _ (Same.refl _) ?_, fun _ e => k _ _ (Same.refl _) ?_, fun _ _ p hp => k _ _ (new_same hp) (tup_of (by rw [upd_same, List.map_append]))⟩
  · rw [List.length_map, List.length_map]
    exact Nat.le_trans hz (by decide)
  · have : ns = [] := List.map_eq_nil_iff.mp e
    subst this
    exact h2
  · have : ms = [] := List.map_eq_nil_iff.mp e
    subst this
    rw [List.append_nil]
    exact h
theorem flat_map_rep (ns : List Int) : ∀ k : Nat, (List.replicate k (ns.map V.int)).flatten = (Fr.rep ns k).map V.int := fun k => by
  rw [← Fr.flat_rep, List.map_flatten, List.map_replicate]
theorem rep_ints {k : Int} (h : SqT K H a (ns.map V.int)) (k1 : 1 ≤ k) (k2 : k ≤ 1000) (hz : ns.length ≤ 1000) (q : ∀ H' p, Same H H' → SqT K H' p ((Fr.rep ns k.toNat).map V.int) → Q (.ref p) H') : rRepA K (.ref a) (.int k) H Q := by
  refine ⟨a, k, _, rfl, rfl, h, k1, k2, by rw [List.length_map]; exact hz, fun e => q _ _ (Same.refl _) ?_, fun _ _ p hp => q _ _ (new_same hp) (tup_of (by rw [upd_same, flat_map_rep]))⟩
  rcases e with e | e
  · have : ns = [] := List.map_eq_nil_iff.mp e
    subst this
    rw [Fr.rep_nil]
    exact h
  · subst e
    show SqT K H a ((Fr.rep ns 1).map V.int)
    exact h
theorem cutI_to (ns : List Int) (d : Nat) : cutI ns none (some (d : Int)) = ns.take d := by
  unfold cutI
  rw [sIx_none, sIx_nat, List.drop_zero, Nat.sub_zero]
  by_cases h : d ≤ ns.length
  · rw [Nat.min_eq_left h]
  · rw [Nat.min_eq_right (by omega), List.take_length, List.take_of_length_le (by omega)]
theorem cutI_from (ns : List Int) (d : Nat) : cutI ns (some (d : Int)) none = ns.drop d := by
  unfold cutI
  rw [sIx_none, sIx_nat]
  by_cases h : d ≤ ns.length
  · rw [Nat.min_eq_left h, List.take_of_length_le (by rw [List.length_drop]; omega)]
  · rw [Nat.min_eq_right (by omega), Nat.sub_self, List.take_zero, List.drop_of_length_le (by omega)]
theorem cutI_mid (ns : List Int) (d e : Nat) (he : e ≤ ns.length) (hd : d ≤ e) : cutI ns (some (d : Int)) (some (e : Int)) = (ns.drop d).take (e - d) := by
  unfold cutI
  rw [sIx_nat, sIx_nat, Nat.min_eq_left he, Nat.min_eq_left (by omega)]
end
theorem depth_ints : ∀ ns : List Int, PyData.depthAll (ns.map PyData.int) = 0
  | [] => rfl
  | x :: a => by
    show max (PyData.depth (.int x)) (PyData.depthAll (a.map PyData.int)) = 0
    rw [depth_ints a]
    rfl
theorem shaped_list (ns : List Int) : SeqAt.shaped (.list (ns.map .int)) = true := by
  unfold SeqAt.shaped
  rw [show PyData.canLay0 (.list (ns.map .int)) = PyData.canLayAll0 (ns.map .int) from rfl, canLay_ints, show PyData.depth (.list (ns.map .int)) = PyData.depthAll (ns.map .int) + 1 from rfl, depth_ints]
  rfl
theorem shaped_tup (ns : List Int) : SeqAt.shaped (.tuple (ns.map .int)) = true := by
  unfold SeqAt.shaped
  rw [show PyData.canLay0 (.tuple (ns.map .int)) = PyData.canLayAll0 (ns.map .int) from rfl, canLay_ints, show PyData.depth (.tuple (ns.map .int)) = PyData.depthAll (ns.map .int) + 1 from rfl, depth_ints]
  rfl
theorem eqv_list (a b : List Int) : PyData.eqv (.list (a.map .int)) (.list (b.map .int)) = decide (a = b) := eqv_ints a b
theorem dp_list {K : PySem.W.Frag} {H : Hp} {a : Addr} {ns : List Int} (h : SqL K H a (ns.map V.int)) : Dp K H (.ref a) (.list (ns.map .int)) := .lst h (dp_ints ns)
/-- two tuples of numbers compared -/
theorem ne_tup {K : PySem.W.Frag} {H : Hp} {a b : Addr} {ns ms : List Int} {Q : VK} (h : SqT K H a (ns.map V.int)) (h2 : SqT K H b (ms.map V.int)) (q : Q (.bl (!decide (ns = ms))) H) : rNeD K (.ref a) (.ref b) H Q :=
  ⟨_, _, dp_tup h, dp_tup h2, shaped_tup ns, shaped_tup ms, by rw [eqv_tup]; exact q⟩
theorem eq_tup {K : PySem.W.Frag} {H : Hp} {a b : Addr} {ns ms : List Int} {Q : VK} (h : SqT K H a (ns.map V.int)) (h2 : SqT K H b (ms.map V.int)) (q : Q (.bl (decide (ns = ms))) H) : rEqD K (.ref a) (.ref b) H Q :=
  ⟨_, _, dp_tup h, dp_tup h2, shaped_tup ns, shaped_tup ms, by rw [eqv_tup]; exact q⟩
theorem ne_list {K : PySem.W.Frag} {H : Hp} {a b : Addr} {ns ms : List Int} {Q : VK} (h : SqL K H a (ns.map V.int)) (h2 : SqL K H b (ms.map V.int)) (q : Q (.bl (!decide (ns = ms))) H) : rNeD K (.ref a) (.ref b) H Q :=
  ⟨_, _, dp_list h, dp_list h2, shaped_list ns, shaped_list ms, by rw [eqv_list]; exact q⟩
/-! the core by its two ends -/
def Pal (ns : List Int) (d : Nat) : Prop := 2 * d ≤ ns.length ∧ ∀ j, j < d → ns.getD j 0 = - ns.getD (ns.length - 1 - j) 0
theorem getD_of {ns : List Int} {j : Nat} (h : j < ns.length) : ns[j]? = some (ns.getD j 0) := by
  rw [List.getD_eq_getElem?_getD, List.getElem?_eq_getElem h]
  rfl
theorem pal_split {ns : List Int} {d : Nat} (h : Pal ns d) : ns = ns.take d ++ (ns.drop d).take (ns.length - d - d) ++ Fr.opp (ns.take d) := by
  obtain ⟨h1, h2⟩ := h
  have e : Fr.opp (ns.take d) = ns.drop (ns.length - d) := by
    refine List.ext_getElem? fun j => ?_
    by_cases hj : j < d
    · have a1 : (Fr.opp (ns.take d))[j]? = some (- ns.getD (d - 1 - j) 0) := by
        unfold Fr.opp
        rw [List.getElem?_reverse (by rw [List.length_map, List.length_take]; omega), List.length_map, List.length_take, Nat.min_eq_left (by omega), List.getElem?_map, List.getElem?_take, if_pos (by omega), getD_of (by omega)]
        rfl
      rw [a1, List.getElem?_drop, getD_of (by omega), h2 (d - 1 - j) (by omega), Int.neg_neg]
      have : ns.length - 1 - (d - 1 - j) = ns.length - d + j := by omega
      rw [this]
    · rw [List.getElem?_eq_none (by rw [Fr.opp_len, List.length_take]; omega), List.getElem?_eq_none (by rw [List.length_drop]; omega)]
  rw [e]
  have e2 : ns.drop d = (ns.drop d).take (ns.length - d - d) ++ ns.drop (ns.length - d) := by
    have := (List.take_append_drop (ns.length - d - d) (ns.drop d)).symm
    rw [List.drop_drop] at this
    have e3 : d + (ns.length - d - d) = ns.length - d := by omega
    rw [e3] at this
    exact this
  rw [List.append_assoc, ← e2, List.take_append_drop]
theorem nf_at : ∀ {ns : List Int}, Fr.Nf ns → ∀ j, j + 1 < ns.length → ns.getD j 0 ≠ - ns.getD (j + 1) 0
  | [], _, j, h => absurd h (Nat.not_lt_zero _)
  | [_], _, j, h => by simp at h
  | x :: y :: t, hn, 0, _ => hn.1
  | x :: y :: t, hn, j + 1, h => nf_at (ns := y :: t) hn.2 j (by simp at h ⊢; omega)
theorem pal_mid {n : Int} {ns : List Int} {d : Nat} (hw : Wd n ns) (h : Pal ns d) (hn : ns ≠ []) (stop : ¬ (2 * d + 1 < ns.length ∧ ns.getD d 0 = - ns.getD (ns.length - 1 - d) 0)) :
    (ns.drop d).take (ns.length - d - d) ≠ [] ∧ ∀ x y, ((ns.drop d).take (ns.length - d - d)).getLast? = some x → ((ns.drop d).take (ns.length - d - d)).head? = some y → x ≠ -y := by
  have hp : 0 < ns.length := List.length_pos_iff.mpr hn
  obtain ⟨h1, h2⟩ := h
  have h3 : 2 * d < ns.length := by
    by_cases q : 2 * d = ns.length
    · exfalso
      have hd : 0 < d := by omega
      have a1 := h2 (d - 1) (by omega)
      have e : ns.length - 1 - (d - 1) = d - 1 + 1 := by omega
      rw [e] at a1
      exact nf_at hw.nf (d - 1) (by omega) a1
    · omega
  have hlen : ((ns.drop d).take (ns.length - d - d)).length = ns.length - d - d := by rw [List.length_take, List.length_drop]; omega
  refine ⟨fun q => by rw [q] at hlen; simp at hlen; omega, fun x y hx hy => ?_⟩
  rw [List.getLast?_eq_getElem?, hlen, List.getElem?_take, if_pos (by omega), List.getElem?_drop, getD_of (by omega)] at hx
  rw [List.head?_eq_getElem?, List.getElem?_take, if_pos (by omega), List.getElem?_drop, getD_of (by omega)] at hy
  cases hx
  cases hy
  have e1 : d + (ns.length - d - d - 1) = ns.length - 1 - d := by omega
  rw [e1, Nat.add_zero]
  intro q
  by_cases h4 : 2 * d + 1 < ns.length
  · exact stop ⟨h4, by omega⟩
  · have e2 : ns.length - 1 - d = d := by omega
    rw [e2] at q
    have := (hw.lt (ns.getD d 0) (List.mem_of_getElem? (getD_of (ns := ns) (j := d) (by omega)))).1
    omega
end N0

namespace N0
open PySem PySem.Spec PyProof.Rows L2 HT
section
variable {K : PySem.W.Frag} {H H1 : Hp} {σ : L2.St}
theorem va_same {v : V} {o : Option (List (Option Int))} (e : Same H H1) (h : Va K H v o) : Va K H1 v o := by
  cases h with
  | tup h hl he => exact .tup (same_tup e h) hl fun j x o hx ho => (he j x o hx ho).same e
  | oth h k => exact .oth (tyx_same e h) k
/-- te gives a value of which P holds, and leaves all that was there -/
def EvS (te : TE) (σ : L2.St) (H : Hp) (P : V → Hp → Prop) : Prop := ∀ H1, Same H H1 → ∀ Q : VK, (∀ v H2, Same H1 H2 → P v H2 → Q v H2) → te σ H1 Q
abbrev IsE (K : PySem.W.Frag) (o : Option Int) : V → Hp → Prop := fun v H => En K H v o
abbrev IsT (K : PySem.W.Frag) (os : List (Option Int)) : V → Hp → Prop := fun v H => Va K H v (some os)
theorem evs_c {v : V} {P : V → Hp → Prop} (h : ∀ H1, Same H H1 → P v H1) : EvS (tC v) σ H P := fun H1 e Q q => q v H1 (Same.refl _) (h H1 e)
theorem evs_var {i : Nat} {v : V} {P : V → Hp → Prop} (hv : σ[i]? = some (some v)) (h : ∀ H1, Same H H1 → P v H1) : EvS (tVar i) σ H P := fun H1 e Q q => ⟨v, hv, q v H1 (Same.refl _) (h H1 e)⟩
theorem en_tup0 : IsT K [] (.ref a) (upd H a (.tup [])) := .tup (tup_of upd_same) rfl fun j x o hx _ => nomatch hx
theorem evs_t0 : EvS (tTup tNil) σ H (IsT K []) := fun H1 e Q q => ⟨Nat.zero_le _, fun p hp => q _ _ (new_same hp) (.tup (tup_of upd_same) rfl fun j x o hx _ => nomatch hx)⟩
theorem evs_t1 {te : TE} {o : Option Int} (h : EvS te σ H (IsE K o)) : EvS (tTup (tCons te tNil)) σ H (IsT K [o]) := fun H1 e Q q => h H1 e _ fun v H2 e2 hv =>
  ⟨by show 1 ≤ sizeLine; decide, fun p hp => q _ _ (Same.trans e2 (new_same hp)) (.tup (tup_of upd_same) rfl fun j x u hx hu => by
    cases j with
    | zero => cases hx; cases hu; exact hv.same (new_same hp)
    | succ j => cases hx)⟩
theorem evs_t2 {te tf : TE} {o u : Option Int} (h : EvS te σ H (IsE K o)) (h2 : EvS tf σ H (IsE K u)) : EvS (tTup (tCons te (tCons tf tNil))) σ H (IsT K [o, u]) := fun H1 e Q q => h H1 e _ fun v H2 e2 hv => h2 H2 (Same.trans e e2) _ fun v2 H3 e3 hv2 =>
  ⟨by show 2 ≤ sizeLine; decide, fun p hp => q _ _ (Same.trans (Same.trans e2 e3) (new_same hp)) (.tup (tup_of upd_same) rfl fun j x y hx hy => by
    cases j with
    | zero => cases hx; cases hy; exact (hv.same e3).same (new_same hp)
    | succ j =>
      cases j with
      | zero => cases hx; cases hy; exact hv2.same (new_same hp)
      | succ j => cases hx)⟩
theorem evs_cat {ta tb : TE} {os ps : List (Option Int)} (h1 : EvS ta σ H (IsT K os)) (h2 : EvS tb σ H (IsT K ps)) (hz : os.length + ps.length ≤ 100000) : EvS (tOp (rCatA K) ta tb) σ H (IsT K (os ++ ps)) := fun H1 e Q q =>
  h1 H1 e _ fun v H2 e2 hv => h2 H2 (Same.trans e e2) _ fun v2 H3 e3 hv2 => by
    have hv := va_same e3 hv
    cases hv with
    | @tup a xs _ h hl he =>
      cases hv2 with
      | @tup b ys _ h' hl' he' =>
        refine ⟨a, b, xs, ys, rfl, rfl, h, h', Nat.le_trans (by omega) (by decide : 100000 ≤ sizeLine), fun ex => q _ _ (Same.trans e2 e3) ?_, fun _ ey => q _ _ (Same.trans e2 e3) ?_, fun _ _ p hp => q _ _ (Same.trans (Same.trans e2 e3) (new_same hp)) ?_⟩
        · subst ex
          have : os = [] := List.eq_nil_of_length_eq_zero hl.symm
          subst this
          exact .tup h' hl' he'
        · subst ey
          have : ps = [] := List.eq_nil_of_length_eq_zero hl'.symm
          subst this
          rw [List.append_nil]
          exact .tup h hl he
        · refine .tup (tup_of upd_same) (by rw [List.length_append, List.length_append, hl, hl']) fun j x o hx ho => ?_
          refine En.same (new_same hp) ?_
          by_cases hj : j < xs.length
          · rw [List.getElem?_append_left hj] at hx
            rw [List.getElem?_append_left (by omega)] at ho
            exact he j x o hx ho
          · rw [List.getElem?_append_right (by omega)] at hx
            rw [List.getElem?_append_right (by omega), ← hl] at ho
            exact he' _ x o hx ho
theorem evs_ints {te : TE} {a : Addr} {ns : List Int} (h : EvS te σ H fun v H => ∃ a, v = .ref a ∧ SqT K H a (ns.map V.int)) : EvS te σ H (IsT K (ns.map some)) := fun H1 e Q q => h H1 e _ fun v H2 e2 ⟨a, ev, ha⟩ => q v H2 e2 (by rw [ev]; exact va_ints ha)
abbrev IsI (K : PySem.W.Frag) (ns : List Int) : V → Hp → Prop := fun v H => ∃ a, v = .ref a ∧ SqT K H a (ns.map V.int)
theorem isI {te : TE} {ns : List Int} (h : EvS te σ H (IsI K ns)) : EvS te σ H (IsT K (ns.map some)) := fun H1 e Q q => h H1 e _ fun v H2 e2 ⟨a, ev, ha⟩ => q v H2 e2 (by rw [ev]; exact va_ints ha)
theorem evs_to {i j : Nat} {a : Addr} {k : Nat} {ns : List Int} (hi : σ[i]? = some (some (.ref a))) (hj : σ[j]? = some (some (.int (k : Int)))) (h : SqT K H a (ns.map V.int)) : EvS (tSl (rSlA K) (tVar i) tNoPart (tPart (tVar j))) σ H (IsI K (ns.take k)) := fun H1 e Q q =>
  ⟨.ref a, hi, .int (k : Int), hj, (k : Int), rfl, sl_ints (same_tup e h) fun H2 p e2 hp => q _ _ e2 ⟨p, rfl, by rw [cutI_to] at hp; exact hp⟩⟩
theorem nopart {Q : Option Int → Hp → Prop} (h : Q none H) : tNoPart σ H Q := h
theorem evs_from {i j : Nat} {a : Addr} {k : Nat} {ns : List Int} (hi : σ[i]? = some (some (.ref a))) (hj : σ[j]? = some (some (.int (k : Int)))) (h : SqT K H a (ns.map V.int)) : EvS (tSl (rSlA K) (tVar i) (tPart (tVar j)) tNoPart) σ H (IsI K (ns.drop k)) := fun H1 e Q q =>
  ⟨.ref a, hi, .int (k : Int), hj, (k : Int), rfl, nopart (sl_ints (same_tup e h) fun H2 p e2 hp => q _ _ e2 ⟨p, rfl, by rw [cutI_from] at hp; exact hp⟩)⟩
/-- what is judged, and the word on it -/
def Itm (K : PySem.W.Frag) (J : Option (List (Option Int)) → Bool) : V → Hp → Prop := fun x H => ∃ (t : Addr) (v : V) (b : Bool) (o : Option (List (Option Int))), x = .ref t ∧ SqT K H t [v, .bl b] ∧ Va K H v o ∧ J o = b
theorem itm_same {J : Option (List (Option Int)) → Bool} {x : V} (e : Same H H1) (h : Itm K J x H) : Itm K J x H1 := by
  obtain ⟨t, v, b, o, e1, e2, e3, e4⟩ := h
  exact ⟨t, v, b, o, e1, same_tup e e2, va_same e e3, e4⟩
theorem evs_itm {J : Option (List (Option Int)) → Bool} {te : TE} {b : Bool} (h : EvS te σ H fun v H => ∃ o, Va K H v o ∧ J o = b) : EvS (tTup (tCons te (tCons (tC (.bl b)) tNil))) σ H (Itm K J) := fun H1 e Q q => h H1 e _ fun v H2 e2 ⟨o, hv, hj⟩ =>
  ⟨by show 2 ≤ sizeLine; decide, fun p hp => q _ _ (Same.trans e2 (new_same hp)) ⟨p, v, b, o, rfl, tup_of upd_same, va_same (new_same hp) hv, hj⟩⟩
theorem evs_of {te : TE} {P P' : V → Hp → Prop} (h : EvS te σ H P) (f : ∀ v H, P v H → P' v H) : EvS te σ H P' := fun H1 e Q q => h H1 e Q fun v H2 e2 hv => q v H2 e2 (f v H2 hv)
theorem itm_t {J : Option (List (Option Int)) → Bool} {te : TE} {b : Bool} {os : List (Option Int)} (h : EvS te σ H (IsT K os)) (hj : J (some os) = b) : EvS (tTup (tCons te (tCons (tC (.bl b)) tNil))) σ H (Itm K J) := evs_itm (evs_of h fun v H hv => ⟨_, hv, hj⟩)
theorem itm_o {J : Option (List (Option Int)) → Bool} {te : TE} {b : Bool} (h : EvS te σ H fun v H => Va K H v none) (hj : J none = b) : EvS (tTup (tCons te (tCons (tC (.bl b)) tNil))) σ H (Itm K J) := evs_itm (evs_of h fun v H hv => ⟨_, hv, hj⟩)
/-- the items of a display -/
def EvA (ta : TA) (σ : L2.St) (H : Hp) (n : Nat) (P : V → Hp → Prop) : Prop := ∀ H1, Same H H1 → ∀ Q : List V → Hp → Prop, (∀ vs H2, Same H1 H2 → vs.length = n → (∀ v ∈ vs, P v H2) → Q vs H2) → ta σ H1 Q
theorem eva_nil {P : V → Hp → Prop} : EvA tNil σ H 0 P := fun H1 e Q q => q [] H1 (Same.refl _) rfl fun _ h => nomatch h
theorem eva_cons {te : TE} {ta : TA} {n : Nat} {P : V → Hp → Prop} (pp : ∀ v H H1, Same H H1 → P v H → P v H1) (h : EvS te σ H P) (h2 : EvA ta σ H n P) : EvA (tCons te ta) σ H (n + 1) P := fun H1 e Q q => h H1 e _ fun v H2 e2 hv => h2 H2 (Same.trans e e2) _ fun vs H3 e3 hn hvs =>
  q _ _ (Same.trans e2 e3) (by rw [List.length_cons, hn]) fun u hu => by
    rcases List.mem_cons.mp hu with hu | hu
    · rw [hu]; exact pp _ _ _ e3 hv
    · exact hvs u hu
end
end N0

namespace Pr
open PySem L2 N0
/-! ### the text by places -/
def topS (i : Nat) : Stmt := PySem.Challenge.pw_noroadback_k00_whole_bare_forms_and_prod.main.body.getD i (.Pass ⟨0, 0, 0, 0⟩)
abbrev st_is_integer : Stmt := topS 1
abbrev nm_is_integer : List Str := ["value"]
theorem sc_is_integer : FnScope nm_is_integer ["value"] (defScope st_is_integer) := ⟨rfl, rfl, rfl, by decide +kernel, rfl, by decide +kernel, by decide +kernel⟩
abbrev st_is_within : Stmt := topS 2
abbrev nm_is_within : List Str := ["value", "least", "most"]
theorem sc_is_within : FnScope nm_is_within ["value", "least", "most"] (defScope st_is_within) := ⟨rfl, rfl, rfl, by decide +kernel, rfl, by decide +kernel, by decide +kernel⟩
abbrev st_reduced : Stmt := topS 4
abbrev nm_reduced : List Str := ["row", "kept", "entry"]
theorem sc_reduced : FnScope nm_reduced ["row"] (defScope st_reduced) := ⟨rfl, rfl, rfl, by decide +kernel, rfl, by decide +kernel, by decide +kernel⟩
abbrev st_is_reduced : Stmt := topS 5
abbrev nm_is_reduced : List Str := ["row", "place"]
theorem sc_is_reduced : FnScope nm_is_reduced ["row"] (defScope st_is_reduced) := ⟨rfl, rfl, rfl, by decide +kernel, rfl, by decide +kernel, by decide +kernel⟩
abbrev st_product_of : Stmt := topS 6
abbrev nm_product_of : List Str := ["rows", "row", "entry"]
theorem sc_product_of : FnScope nm_product_of ["rows"] (defScope st_product_of) := ⟨rfl, rfl, rfl, by decide +kernel, rfl, by decide +kernel, by decide +kernel⟩
abbrev st_opposite : Stmt := topS 7
abbrev nm_opposite : List Str := ["row", "entry"]
theorem sc_opposite : FnScope nm_opposite ["row"] (defScope st_opposite) := ⟨rfl, rfl, rfl, by decide +kernel, rfl, by decide +kernel, by decide +kernel⟩
abbrev st_split_core : Stmt := topS 8
abbrev nm_split_core : List Str := ["row", "size", "depth"]
theorem sc_split_core : FnScope nm_split_core ["row"] (defScope st_split_core) := ⟨rfl, rfl, rfl, by decide +kernel, rfl, by decide +kernel, by decide +kernel⟩
abbrev st_repeated : Stmt := topS 9
abbrev nm_repeated : List Str := ["row", "many", "head", "middle"]
theorem sc_repeated : FnScope nm_repeated ["row", "many"] (defScope st_repeated) := ⟨rfl, rfl, rfl, by decide +kernel, rfl, by decide +kernel, by decide +kernel⟩
abbrev st_check_letters : Stmt := topS 21
abbrev nm_check_letters : List Str := ["letters"]
theorem sc_check_letters : FnScope nm_check_letters ["letters"] (defScope st_check_letters) := ⟨rfl, rfl, rfl, by decide +kernel, rfl, by decide +kernel, by decide +kernel⟩
abbrev st_check_word : Stmt := topS 22
abbrev nm_check_word : List Str := ["letters", "word"]
theorem sc_check_word : FnScope nm_check_word ["letters", "word"] (defScope st_check_word) := ⟨rfl, rfl, rfl, by decide +kernel, rfl, by decide +kernel, by decide +kernel⟩
abbrev st_check_words : Stmt := topS 23
abbrev nm_check_words : List Str := ["letters", "words", "word"]
theorem sc_check_words : FnScope nm_check_words ["letters", "words"] (defScope st_check_words) := ⟨rfl, rfl, rfl, by decide +kernel, rfl, by decide +kernel, by decide +kernel⟩
abbrev st_is_row : Stmt := topS 24
abbrev nm_is_row : List Str := ["letters", "value", "most", "entry"]
theorem sc_is_row : FnScope nm_is_row ["letters", "value", "most"] (defScope st_is_row) := ⟨rfl, rfl, rfl, by decide +kernel, rfl, by decide +kernel, by decide +kernel⟩
abbrev st_is_bare_row : Stmt := topS 25
abbrev nm_is_bare_row : List Str := ["letters", "value", "most"]
theorem sc_is_bare_row : FnScope nm_is_bare_row ["letters", "value", "most"] (defScope st_is_bare_row) := ⟨rfl, rfl, rfl, by decide +kernel, rfl, by decide +kernel, by decide +kernel⟩
abbrev st_is_word : Stmt := topS 26
abbrev nm_is_word : List Str := ["letters", "value"]
theorem sc_is_word : FnScope nm_is_word ["letters", "value"] (defScope st_is_word) := ⟨rfl, rfl, rfl, by decide +kernel, rfl, by decide +kernel, by decide +kernel⟩
abbrev st_bare : Stmt := topS 27
abbrev nm_bare : List Str := ["letters", "row"]
theorem sc_bare : FnScope nm_bare ["letters", "row"] (defScope st_bare) := ⟨rfl, rfl, rfl, by decide +kernel, rfl, by decide +kernel, by decide +kernel⟩
abbrev st_product : Stmt := topS 28
abbrev nm_product : List Str := ["letters", "words"]
theorem sc_product : FnScope nm_product ["letters", "words"] (defScope st_product) := ⟨rfl, rfl, rfl, by decide +kernel, rfl, by decide +kernel, by decide +kernel⟩
abbrev st_contrary : Stmt := topS 29
abbrev nm_contrary : List Str := ["letters", "word"]
theorem sc_contrary : FnScope nm_contrary ["letters", "word"] (defScope st_contrary) := ⟨rfl, rfl, rfl, by decide +kernel, rfl, by decide +kernel, by decide +kernel⟩
abbrev st_power : Stmt := topS 30
abbrev nm_power : List Str := ["letters", "word", "many"]
theorem sc_power : FnScope nm_power ["letters", "word", "many"] (defScope st_power) := ⟨rfl, rfl, rfl, by decide +kernel, rfl, by decide +kernel, by decide +kernel⟩
abbrev st__law_sack : Stmt := topS 32
abbrev nm__law_sack : List Str := ["script", "spot", "cell", "great"]
theorem sc__law_sack : FnScope nm__law_sack ["script", "spot"] (defScope st__law_sack) := ⟨rfl, rfl, rfl, by decide +kernel, rfl, by decide +kernel, by decide +kernel⟩
abbrev st__law_drawn : Stmt := topS 33
abbrev nm__law_drawn : List Str := ["sack", "total", "found", "one", "two"]
theorem sc__law_drawn : FnScope nm__law_drawn ["sack", "total"] (defScope st__law_drawn) := ⟨rfl, rfl, rfl, by decide +kernel, rfl, by decide +kernel, by decide +kernel⟩
abbrev st__law_liked : Stmt := topS 34
abbrev nm__law_liked : List Str := ["sack", "items"]
theorem sc__law_liked : FnScope nm__law_liked ["sack", "items"] (defScope st__law_liked) := ⟨rfl, rfl, rfl, by decide +kernel, rfl, by decide +kernel, by decide +kernel⟩
abbrev st__law_bare : Stmt := topS 35
abbrev nm__law_bare : List Str := ["row", "found", "entry"]
theorem sc__law_bare : FnScope nm__law_bare ["row"] (defScope st__law_bare) := ⟨rfl, rfl, rfl, by decide +kernel, rfl, by decide +kernel, by decide +kernel⟩
abbrev st__law_back : Stmt := topS 36
abbrev nm__law_back : List Str := ["word", "entry"]
theorem sc__law_back : FnScope nm__law_back ["word"] (defScope st__law_back) := ⟨rfl, rfl, rfl, by decide +kernel, rfl, by decide +kernel, by decide +kernel⟩
abbrev st__law_word : Stmt := topS 37
abbrev nm__law_word : List Str := ["sack", "letters", "most", "row", "turn"]
theorem sc__law_word : FnScope nm__law_word ["sack", "letters", "most"] (defScope st__law_word) := ⟨rfl, rfl, rfl, by decide +kernel, rfl, by decide +kernel, by decide +kernel⟩
abbrev st__law_powered : Stmt := topS 38
abbrev nm__law_powered : List Str := ["word", "many", "row", "turn"]
theorem sc__law_powered : FnScope nm__law_powered ["word", "many"] (defScope st__law_powered) := ⟨rfl, rfl, rfl, by decide +kernel, rfl, by decide +kernel, by decide +kernel⟩
abbrev st__law_struck : Stmt := topS 39
abbrev nm__law_struck : List Str := ["sack", "row", "left", "turn", "at", "pairs"]
theorem sc__law_struck : FnScope nm__law_struck ["sack", "row"] (defScope st__law_struck) := ⟨rfl, rfl, rfl, by decide +kernel, rfl, by decide +kernel, by decide +kernel⟩
abbrev st__law_row : Stmt := topS 40
abbrev nm__law_row : List Str := ["sack", "letters", "many", "found", "turn"]
theorem sc__law_row : FnScope nm__law_row ["sack", "letters", "many"] (defScope st__law_row) := ⟨rfl, rfl, rfl, by decide +kernel, rfl, by decide +kernel, by decide +kernel⟩
abbrev st__law_near : Stmt := topS 41
abbrev nm__law_near : List Str := ["sack", "letters", "word", "at", "found", "entry"]
theorem sc__law_near : FnScope nm__law_near ["sack", "letters", "word"] (defScope st__law_near) := ⟨rfl, rfl, rfl, by decide +kernel, rfl, by decide +kernel, by decide +kernel⟩
abbrev st__law_right : Stmt := topS 42
abbrev nm__law_right : List Str := ["sack", "letters", "row", "due", "one", "other", "third", "both", "back", "many", "more", "most", "value", "told"]
theorem sc__law_right : FnScope nm__law_right ["sack"] (defScope st__law_right) := ⟨rfl, rfl, rfl, by decide +kernel, rfl, by decide +kernel, by decide +kernel⟩
abbrev st_law : Stmt := topS 43
abbrev nm_law : List Str := ["script", "spot", "told"]
theorem sc_law : FnScope nm_law ["script"] (defScope st_law) := ⟨rfl, rfl, rfl, by decide +kernel, rfl, by decide +kernel, by decide +kernel⟩
/-- what the top leaves -/
structure Txt (K : PySem.W.Frag) (mg : Str → Option Value) : Prop where
  f_is_integer : ∃ (f : Addr) (fd : FuncData), Fun K "is_integer" "is_integer" st_is_integer f fd ∧ mg "is_integer" = some (.ref f) ∧ Binds K fd ["value"] []
  f_is_within : ∃ (f : Addr) (fd : FuncData), Fun K "is_within" "is_within" st_is_within f fd ∧ mg "is_within" = some (.ref f) ∧ Binds K fd ["value", "least", "most"] []
  f_reduced : ∃ (f : Addr) (fd : FuncData), Fun K "reduced" "reduced" st_reduced f fd ∧ mg "reduced" = some (.ref f) ∧ Binds K fd ["row"] []
  f_is_reduced : ∃ (f : Addr) (fd : FuncData), Fun K "is_reduced" "is_reduced" st_is_reduced f fd ∧ mg "is_reduced" = some (.ref f) ∧ Binds K fd ["row"] []
  f_product_of : ∃ (f : Addr) (fd : FuncData), Fun K "product_of" "product_of" st_product_of f fd ∧ mg "product_of" = some (.ref f) ∧ Binds K fd ["rows"] []
  f_opposite : ∃ (f : Addr) (fd : FuncData), Fun K "opposite" "opposite" st_opposite f fd ∧ mg "opposite" = some (.ref f) ∧ Binds K fd ["row"] []
  f_split_core : ∃ (f : Addr) (fd : FuncData), Fun K "split_core" "split_core" st_split_core f fd ∧ mg "split_core" = some (.ref f) ∧ Binds K fd ["row"] []
  f_repeated : ∃ (f : Addr) (fd : FuncData), Fun K "repeated" "repeated" st_repeated f fd ∧ mg "repeated" = some (.ref f) ∧ Binds K fd ["row", "many"] []
  f_check_letters : ∃ (f : Addr) (fd : FuncData), Fun K "check_letters" "check_letters" st_check_letters f fd ∧ mg "check_letters" = some (.ref f) ∧ Binds K fd ["letters"] []
  f_check_word : ∃ (f : Addr) (fd : FuncData), Fun K "check_word" "check_word" st_check_word f fd ∧ mg "check_word" = some (.ref f) ∧ Binds K fd ["letters", "word"] []
  f_check_words : ∃ (f : Addr) (fd : FuncData), Fun K "check_words" "check_words" st_check_words f fd ∧ mg "check_words" = some (.ref f) ∧ Binds K fd ["letters", "words"] []
  f_is_row : ∃ (f : Addr) (fd : FuncData), Fun K "is_row" "is_row" st_is_row f fd ∧ mg "is_row" = some (.ref f) ∧ Binds K fd ["letters", "value", "most"] []
  f_is_bare_row : ∃ (f : Addr) (fd : FuncData), Fun K "is_bare_row" "is_bare_row" st_is_bare_row f fd ∧ mg "is_bare_row" = some (.ref f) ∧ Binds K fd ["letters", "value", "most"] []
  f_is_word : ∃ (f : Addr) (fd : FuncData), Fun K "is_word" "is_word" st_is_word f fd ∧ mg "is_word" = some (.ref f) ∧ Binds K fd ["letters", "value"] []
  f_bare : ∃ (f : Addr) (fd : FuncData), Fun K "bare" "bare" st_bare f fd ∧ mg "bare" = some (.ref f) ∧ Binds K fd ["letters", "row"] []
  f_product : ∃ (f : Addr) (fd : FuncData), Fun K "product" "product" st_product f fd ∧ mg "product" = some (.ref f)
  f_contrary : ∃ (f : Addr) (fd : FuncData), Fun K "contrary" "contrary" st_contrary f fd ∧ mg "contrary" = some (.ref f) ∧ Binds K fd ["letters", "word"] []
  f_power : ∃ (f : Addr) (fd : FuncData), Fun K "power" "power" st_power f fd ∧ mg "power" = some (.ref f) ∧ Binds K fd ["letters", "word", "many"] []
  f__law_sack : ∃ (f : Addr) (fd : FuncData), Fun K "_law_sack" "_law_sack" st__law_sack f fd ∧ mg "_law_sack" = some (.ref f) ∧ Binds K fd ["script", "spot"] []
  f__law_drawn : ∃ (f : Addr) (fd : FuncData), Fun K "_law_drawn" "_law_drawn" st__law_drawn f fd ∧ mg "_law_drawn" = some (.ref f) ∧ Binds K fd ["sack", "total"] []
  f__law_liked : ∃ (f : Addr) (fd : FuncData), Fun K "_law_liked" "_law_liked" st__law_liked f fd ∧ mg "_law_liked" = some (.ref f) ∧ Binds K fd ["sack", "items"] []
  f__law_bare : ∃ (f : Addr) (fd : FuncData), Fun K "_law_bare" "_law_bare" st__law_bare f fd ∧ mg "_law_bare" = some (.ref f) ∧ Binds K fd ["row"] []
  f__law_back : ∃ (f : Addr) (fd : FuncData), Fun K "_law_back" "_law_back" st__law_back f fd ∧ mg "_law_back" = some (.ref f) ∧ Binds K fd ["word"] []
  f__law_word : ∃ (f : Addr) (fd : FuncData), Fun K "_law_word" "_law_word" st__law_word f fd ∧ mg "_law_word" = some (.ref f) ∧ Binds K fd ["sack", "letters", "most"] []
  f__law_powered : ∃ (f : Addr) (fd : FuncData), Fun K "_law_powered" "_law_powered" st__law_powered f fd ∧ mg "_law_powered" = some (.ref f) ∧ Binds K fd ["word", "many"] []
  f__law_struck : ∃ (f : Addr) (fd : FuncData), Fun K "_law_struck" "_law_struck" st__law_struck f fd ∧ mg "_law_struck" = some (.ref f) ∧ Binds K fd ["sack", "row"] []
  f__law_row : ∃ (f : Addr) (fd : FuncData), Fun K "_law_row" "_law_row" st__law_row f fd ∧ mg "_law_row" = some (.ref f) ∧ Binds K fd ["sack", "letters", "many"] []
  f__law_near : ∃ (f : Addr) (fd : FuncData), Fun K "_law_near" "_law_near" st__law_near f fd ∧ mg "_law_near" = some (.ref f) ∧ Binds K fd ["sack", "letters", "word"] []
  f__law_right : ∃ (f : Addr) (fd : FuncData), Fun K "_law_right" "_law_right" st__law_right f fd ∧ mg "_law_right" = some (.ref f) ∧ Binds K fd ["sack"] []
  c_MAX_LETTERS : ∃ t : Tok, mg "MAX_LETTERS" = some (.int 5 t)
  c_MAX_WORD : ∃ t : Tok, mg "MAX_WORD" = some (.int 200 t)
  c_MAX_ROW : ∃ t : Tok, mg "MAX_ROW" = some (.int 400 t)
  c_MOST_POWER : ∃ t : Tok, mg "MOST_POWER" = some (.int 50 t)
  c_MOST_MULTIPLIED : ∃ t : Tok, mg "MOST_MULTIPLIED" = some (.int 50 t)
  n_abs : mg "abs" = none
  n_all : mg "all" = none
  n_bool : mg "bool" = none
  n_int : mg "int" = none
  n_isinstance : mg "isinstance" = none
  n_len : mg "len" = none
  n_list : mg "list" = none
  n_max : mg "max" = none
  n_min : mg "min" = none
  n_range : mg "range" = none
  n_tuple : mg "tuple" = none
section
variable {P : Program} {w : World} {K : PySem.W.Frag} {mg : Str → Option Value} {base : Heap}
/-! is_integer, is_within -/
def spIsInt (K : PySem.W.Frag) : Sp := fun vs H Q _ => ∃ v o, vs = [v] ∧ En K H v o ∧ Q (.bl o.isSome) H
theorem ok_is_integer {f : Addr} {fd : FuncData} (F : Fun K "is_integer" "is_integer" st_is_integer f fd) (T : Txt K mg) : FnOk P w K mg base CX0 1 f fd ["value"] (spIsInt K) := by
  refine F.ok sc_is_integer (fun vs H Q E h => ?_) (fun cdv A outer s H vs Q E hr h => ?_)
  · obtain ⟨v, o, rfl, _⟩ := h
    rfl
  · obtain ⟨v, o, rfl, en, k⟩ := h
    refine ⟨_, (pss_one (ps_ret (pe_and (pe_callB (kcall_isi (K := K)) (by rfl) T.n_isinstance bo_isinstance (pa_cons (pv 0) (pa_cons (pe_bltn (by rfl) T.n_int bo_int rel_ty) pa_nil))) (pe_one (pe_not (pe_callB (kcall_isi (K := K)) (by rfl) T.n_isinstance bo_isinstance (pa_cons (pv 0) (pa_cons (pe_bltn (by rfl) T.n_bool bo_bool rel_ty) pa_nil)))))))), ?_⟩
    have key : ∀ (t : String) (i b : Bool), TyX K H v (.type t) → kitB t "int" = some i → kitB t "bool" = some b → (i && !b) = o.isSome →
        ∃ v1, (start nm_is_integer [v])[0]? = some (some v1) ∧ rIsi K [v1, .ty "int"] H fun x H1 => ∃ c, x = .bl c ∧ if c = true then (∃ v2, (start nm_is_integer [v])[0]? = some (some v2) ∧ rIsi K [v2, .ty "bool"] H1 fun x H1 => ∃ c, x = .bl c ∧ Q (.bl (!c)) H1) else Q (.bl false) H1 := fun t i b h k1 k2 e => by
      refine ⟨v, rfl, v, _, _, _, i, rfl, .ty _, h, kit_ty k1, i, rfl, ?_⟩
      cases i with
      | false =>
        rw [show o.isSome = false from e.symm] at k
        exact iteF k
      | true => exact iteT ⟨v, rfl, v, _, _, _, b, rfl, .ty _, h, kit_ty k2, b, rfl, by rw [show (!b) = o.isSome from e]; exact k⟩
    cases en with
    | int i => exact key "int" true false (.base (.int i)) (by decide +kernel) (by decide +kernel) rfl
    | oth h k1 k2 k3 => exact key _ _ _ h k1 k2 k3
theorem cl_is_integer (T : Txt K mg) : Cl P w K mg base 1 "is_integer" (spIsInt K) := by
  obtain ⟨f, fd, F, hm, hb⟩ := T.f_is_integer
  exact cl_of (ok_is_integer F T) hm F.kp hb
def spWithin : Sp := fun vs H Q _ => ∃ v l m : Int, vs = [.int v, .int l, .int m] ∧ Q (.bl (decide (l ≤ v ∧ v ≤ m))) H
theorem ok_is_within {f : Addr} {fd : FuncData} (F : Fun K "is_within" "is_within" st_is_within f fd) (T : Txt K mg) : FnOk P w K mg base CX0 2 f fd ["value", "least", "most"] spWithin := by
  have c_is_integer : Cl P w K mg base 1 "is_integer" (spIsInt K) := cl_is_integer T
  refine F.ok sc_is_within (fun vs H Q E h => ?_) (fun cdv A outer s H vs Q E hr h => ?_)
  · obtain ⟨v, l, m, rfl, _⟩ := h
    rfl
  · obtain ⟨v, l, m, rfl, k⟩ := h
    refine ⟨_, (pss_one (ps_ret (pe_and (pe_f c_is_integer hr (by decide) rfl (pa_cons (pv 0) pa_nil)) (pe_one (pe_chain op_le op_le (pv 1) (pv 0) (pv 2)))))), ?_⟩
    refine ⟨.int v, rfl, .int v, some v, rfl, .int v, true, rfl, iteT ⟨.int l, rfl, .int v, rfl, l, v, rfl, rfl, _, rfl, ?_⟩⟩
    refine ite2 (fun h1 => ⟨.int m, rfl, v, m, rfl, rfl, ?_⟩) fun h1 => ?_
    · have h1 := of_decide_eq_true h1
      have e : decide (l ≤ v ∧ v ≤ m) = decide (v ≤ m) := by simp [h1]
      rw [e] at k
      exact k
    · have h1 : ¬ l ≤ v := fun q => h1 (decide_eq_true q)
      have e : decide (l ≤ v ∧ v ≤ m) = false := by simp [h1]
      rw [e] at k
      exact k
theorem cl_is_within (T : Txt K mg) : Cl P w K mg base 2 "is_within" spWithin := by
  obtain ⟨f, fd, F, hm, hb⟩ := T.f_is_within
  exact cl_of (ok_is_within F T) hm F.kp hb
def spChkLetters : Sp := fun vs H Q _ => ∃ n : Int, vs = [.int n] ∧ 1 ≤ n ∧ n ≤ 5 ∧ Q .non H
theorem ok_check_letters {f : Addr} {fd : FuncData} (F : Fun K "check_letters" "check_letters" st_check_letters f fd) (T : Txt K mg) : FnOk P w K mg base CX0 3 f fd ["letters"] spChkLetters := by
  have c_is_within : Cl P w K mg base 2 "is_within" spWithin := cl_is_within T
  refine F.ok sc_check_letters (fun vs H Q E h => ?_) (fun cdv A outer s H vs Q E hr h => ?_)
  · obtain ⟨n, rfl, _⟩ := h
    rfl
  · obtain ⟨n, rfl, h1, h2, k⟩ := h
    refine ⟨_, (pss_one (ps_if (pt_not (pt_val (pe_f c_is_within hr (by decide) rfl (pa_cons (pv 0) (pa_cons pe_int (pa_cons (pe_glob rfl T.c_MAX_LETTERS.choose_spec rel_int) pa_nil)))))) (pss_one ps_never) pss_nil)), ?_⟩
    refine ⟨.int n, rfl, n, 1, 5, rfl, _, rfl, ?_⟩
    rw [decide_eq_true (show 1 ≤ n ∧ n ≤ 5 from ⟨h1, h2⟩)]
    exact iteF k
theorem cl_check_letters (T : Txt K mg) : Cl P w K mg base 3 "check_letters" spChkLetters := by
  obtain ⟨f, fd, F, hm, hb⟩ := T.f_check_letters
  exact cl_of (ok_check_letters F T) hm F.kp hb
def rowV (n m : Int) : Option (List (Option Int)) → Bool
  | some os => rowB n m os
  | none => false
def spIsRow (K : PySem.W.Frag) : Sp := fun vs H Q _ => ∃ (n m : Int) (v : V) (o : Option (List (Option Int))), vs = [.int n, v, .int m] ∧ m ≤ 1000 ∧ Va K H v o ∧ ∀ H', Same H H' → Q (.bl (rowV n m o)) H'
theorem ok_is_row {f : Addr} {fd : FuncData} (F : Fun K "is_row" "is_row" st_is_row f fd) (T : Txt K mg) : FnOk P w K mg base CX0 2 f fd ["letters", "value", "most"] (spIsRow K) := by
  have c_is_integer : Cl P w K mg base 1 "is_integer" (spIsInt K) := cl_is_integer T
  refine F.ok sc_is_row (fun vs H Q E h => ?_) (fun cdv A outer s H vs Q E hr h => ?_)
  · obtain ⟨n, m, v, o, rfl, _⟩ := h
    rfl
  · obtain ⟨n, m, v, o, rfl, hm, va, k⟩ := h
    refine ⟨_, (pss_cons (ps_if (PW.pt (pw_or (pt_not (pt_val (pe_callB (kcall_isi (K := K)) (by rfl) T.n_isinstance bo_isinstance (pa_cons (pv 1) (pa_cons (pe_bltn (by rfl) T.n_tuple bo_tuple rel_ty) pa_nil))))) (pw_or1 (pt_cmpR op_gt (pe_callB (kcall_len (K := K)) (by rfl) T.n_len bo_len (pa_cons (pv 1) pa_nil)) (pv 2) (nomark _))))) (pss_one (ps_ret pe_bl)) pss_nil) (pss_one (ps_ret (pe_callB (kcr_all (K := K) rfl) (by rfl) T.n_all bo_all (pa_cons (pe_lc (own := [("entry", 3)]) rfl sc_is_row.nd (kpi_tup (K := K) (pv 1)) (blkOk_by (N := nm_is_row) (sc := defScope st_is_row) (by decide +kernel)) (fun _ _ _ _ _ => (pg_name (i := 3) sc_is_row.nd rfl (by first | exact Or.inl rfl | exact Or.inr rfl))) (fun _ _ _ _ _ => pts_nil) (fun _ _ _ _ _ => (pe_and (pe_f c_is_integer hr (by decide) rfl (pa_cons (pv 3) pa_nil)) (pe_one (pe_chain op_le op_le pe_int (pe_callB call_abs (by rfl) T.n_abs bo_abs (pa_cons (pv 3) pa_nil)) (pv 0)))))) pa_nil))))), ?_⟩
    cases va with
    | oth h kt =>
      refine ⟨v, rfl, v, _, _, _, false, rfl, .ty _, h, kit_ty kt, false, rfl, ?_⟩
      exact iteT (iteT (k _ (Same.refl _)))
    | @tup a xs os h hl he =>
      refine ⟨.ref a, rfl, .ref a, _, _, _, true, rfl, .ty _, tyx_tup h, kit_ty (by decide +kernel), true, rfl, ?_⟩
      refine iteF ⟨.ref a, rfl, a, xs, rfl, .inr h, .int m, rfl, _, _, rfl, rfl, _, rfl, ?_⟩
      refine ite2 (fun h1 => ?_) fun h1 => ?_
      · have h1 := of_decide_eq_true h1
        have e : rowV n m (some os) = false := by
          show (!decide (m < (os.length : Int)) && os.all (okE n)) = false
          rw [decide_eq_true (by rw [← hl]; exact h1)]
          rfl
        have := k _ (Same.refl _)
        rw [e] at this
        exact this
      · have h1 : ¬ m < (xs.length : Int) := fun q => h1 (decide_eq_true q)
        refine ⟨.ref a, rfl, a, rfl, ⟨xs, h⟩, fun D hD => lc_tup (K := K) (a := a) (xs := xs) (fun i H' => Same H H' ∧ H' D = some (.lst (((os.map (okE n)).take i).map V.bl))) ⟨new_same hD, upd_same⟩ (fun i H' _ p => same_tup p.1 h) (fun i x H' hx p => ?_) fun H' p => ?_⟩
        · refine ⟨rfl, ?_⟩
          have hi : i < xs.length := (List.getElem?_eq_some_iff.mp hx).1
          obtain ⟨o, ho⟩ : ∃ o, os[i]? = some o := ⟨os[i]'(by omega), List.getElem?_eq_getElem _⟩
          have en := (he i x o hx ho).same p.1
          have fin : ∀ H4 : Hp, H4 = H' → ∃ acc, H4 D = some (.lst acc) ∧ acc.length < sizeLine ∧ (Same H (upd H4 D (.lst (acc ++ [V.bl (okE n o)]))) ∧ upd H4 D (.lst (acc ++ [V.bl (okE n o)])) D = some (.lst (((os.map (okE n)).take (i + 1)).map V.bl))) := fun H4 e => by
            subst e
            refine ⟨_, p.2, small1000 ?_, same_mut p.1 hD, ?_⟩
            · rw [List.length_map, List.length_take]
              omega
            · rw [upd_same, List.take_succ, List.getElem?_map, ho, List.map_append]
              rfl
          refine ⟨x, rfl, x, o, rfl, en, o.isSome, rfl, ?_⟩
          cases en with
          | oth h k1 k2 k3 => exact fin _ rfl
          | int i1 =>
            refine ⟨.int i1, rfl, i1, rfl, _, _, rfl, rfl, _, rfl, ?_⟩
            refine ite2 (fun q1 => ⟨.int n, rfl, _, _, rfl, rfl, ?_⟩) fun q1 => ?_
            · have e : okE n (some i1) = decide ((if i1 < 0 then -i1 else i1) ≤ n) := by
                show (decide _ && decide _) = _
                rw [q1]
                rfl
              have := fin _ rfl
              rw [e] at this
              exact this
            · have e : okE n (some i1) = false := by
                show (decide _ && decide _) = _
                rw [show decide (1 ≤ (if i1 < 0 then -i1 else i1)) = false from Bool.eq_false_iff.mpr q1]
                rfl
              have := fin _ rfl
              rw [e] at this
              exact this
        · refine ⟨D, os.map (okE n), rfl, lst_of ?_, ?_⟩
          · rw [p.2, List.take_of_length_le (by rw [List.length_map, hl]; exact Nat.le_refl _)]
          · have e : rowV n m (some os) = (os.map (okE n)).all id := by
              show (!decide (m < (os.length : Int)) && os.all (okE n)) = _
              rw [decide_eq_false (by rw [← hl]; exact h1), List.all_map]
              rfl
            have := k _ p.1
            rw [e] at this
            exact this
theorem cl_is_row (T : Txt K mg) : Cl P w K mg base 2 "is_row" (spIsRow K) := by
  obtain ⟨f, fd, F, hm, hb⟩ := T.f_is_row
  exact cl_of (ok_is_row F T) hm F.kp hb
theorem dec_int (u v : Int) : decide (V.int u = V.int v) = decide (u = v) := by
  by_cases h : u = v
  · subst h
    simp
  · rw [decide_eq_false h]
    exact decide_eq_false fun q => h (V.int.inj q)
theorem at_int {ns : List Int} {z : Int} {j : Nat} (e : z = (j : Int)) (h : j < ns.length) : atI (ns.map V.int) z = some (V.int (ns.getD j 0)) := by
  refine at_of e ?_
  rw [List.getElem?_map, List.getElem?_eq_getElem h, List.getD_eq_getElem?_getD, List.getElem?_eq_getElem h]
  rfl
def spIsReduced (K : PySem.W.Frag) : Sp := fun vs H Q _ => ∃ (a : Addr) (ns : List Int), vs = [.ref a] ∧ SqT K H a (ns.map V.int) ∧ ns.length ≤ 1000 ∧ ∀ H', Same H H' → Q (.bl (nfB ns)) H'
theorem ok_is_reduced {f : Addr} {fd : FuncData} (F : Fun K "is_reduced" "is_reduced" st_is_reduced f fd) (T : Txt K mg) : FnOk P w K mg base CX0 1 f fd ["row"] (spIsReduced K) := by
  refine F.ok sc_is_reduced (fun vs H Q E h => ?_) (fun cdv A outer s H vs Q E hr h => ?_)
  · obtain ⟨a, ns, rfl, _⟩ := h
    rfl
  · obtain ⟨a, ns, rfl, h, hl, k⟩ := h
    refine ⟨_, (pss_one (ps_ret (pe_callB (kcr_all (K := K) rfl) (by rfl) T.n_all bo_all (pa_cons (pe_lc (own := [("place", 1)]) rfl sc_is_reduced.nd (pi_range2 rfl T.n_range (pa_cons pe_int (pa_cons (pe_callB (kcall_len (K := K)) (by rfl) T.n_len bo_len (pa_cons (pv 0) pa_nil)) pa_nil))) (blkOk_by (N := nm_is_reduced) (sc := defScope st_is_reduced) (by decide +kernel)) (fun _ _ _ _ _ => (pg_name (i := 1) sc_is_reduced.nd rfl (by first | exact Or.inl rfl | exact Or.inr rfl))) (fun _ _ _ _ _ => pts_nil) (fun _ _ _ _ _ => (pe_cmpR op_ne (pe_ix (kix_tup (K := K)) (pv 0) (pe_op op_sub (pv 1) pe_int) (fun _ _ => rfl)) (pe_un un_neg (pe_ix (kix_tup (K := K)) (pv 0) (pv 1) (fun _ _ => rfl))) (nomark _)))) pa_nil)))), ?_⟩
    have el : (ns.map V.int).length = ns.length := List.length_map _
    let g : Nat → Bool := fun j => !decide (ns.getD j 0 = - ns.getD (j + 1) 0)
    have em : ((((ns.map V.int).length : Nat) : Int) - 1).toNat = ns.length - 1 := by rw [el]; omega
    refine ⟨.ref a, rfl, a, _, rfl, .inr h, 1, _, rfl, ⟨by decide, by decide, by omega, by omega⟩, ?_⟩
    rw [em]
    refine fun D hD => lc_range (lo := 1) (n := ns.length - 1) (fun i H' => Same H H' ∧ H' D = some (.lst (((List.range i).map g).map V.bl))) ⟨new_same hD, upd_same⟩ (fun i H' hi p => ?_) fun H' p => ?_
    · refine ⟨rfl, ?_⟩
      have h' := same_tup p.1 h
      refine ⟨.ref a, rfl, .int (1 + i), rfl, _, _, rfl, rfl, a, _, _, _, rfl, rfl, h', at_int (j := i) (by omega) (by omega), ?_⟩
      refine ⟨.ref a, rfl, .int (1 + i), rfl, a, _, _, _, rfl, rfl, h', at_int (j := i + 1) (by omega) (by omega), _, rfl, rfl, ?_⟩
      refine ⟨_, p.2, small1000 (by rw [List.length_map, List.length_map, List.length_range]; omega), same_mut p.1 hD, ?_⟩
      rw [upd_same, List.range_succ, List.map_append, List.map_append, dec_int]
      rfl
    · refine ⟨D, (List.range (ns.length - 1)).map g, rfl, lst_of p.2, ?_⟩
      have e : nfB ns = ((List.range (ns.length - 1)).map g).all id := by
        rw [List.all_map]
        rfl
      have := k _ p.1
      rw [e] at this
      exact this
theorem cl_is_reduced (T : Txt K mg) : Cl P w K mg base 1 "is_reduced" (spIsReduced K) := by
  obtain ⟨f, fd, F, hm, hb⟩ := T.f_is_reduced
  exact cl_of (ok_is_reduced F T) hm F.kp hb
def bareV (n m : Int) : Option (List (Option Int)) → Bool
  | some os => bareB n m os
  | none => false
theorem ints_of {H : Hp} {xs : List V} {os : List (Option Int)} (hl : xs.length = os.length) (he : ∀ (j : Nat) x o, xs[j]? = some x → os[j]? = some o → En K H x o) (ha : os = (intsOf os).map some) : xs = (intsOf os).map V.int := by
  refine List.ext_getElem? fun j => ?_
  by_cases hj : j < xs.length
  · have ho : os[j]? = ((intsOf os)[j]?).map some := by
      rw [← List.getElem?_map, ← ha]
    rw [List.getElem?_map]
    cases q : (intsOf os)[j]? with
    | none =>
      rw [q] at ho
      have := List.getElem?_eq_none_iff.mp ho
      omega
    | some i =>
      rw [q] at ho
      have hx : xs[j]? = some (xs[j]) := List.getElem?_eq_getElem hj
      have en := he j _ _ hx ho
      rw [hx]
      generalize xs[j] = x at en
      cases en
      rfl
  · rw [List.getElem?_eq_none (by omega), List.getElem?_eq_none]
    have : (intsOf os).length = os.length := by
      have := congrArg List.length ha
      rw [List.length_map] at this
      exact this.symm
    rw [List.length_map]
    omega
def spIsBareRow (K : PySem.W.Frag) : Sp := fun vs H Q _ => ∃ (n m : Int) (v : V) (o : Option (List (Option Int))), vs = [.int n, v, .int m] ∧ m ≤ 1000 ∧ Va K H v o ∧ ∀ H', Same H H' → Q (.bl (bareV n m o)) H'
theorem ok_is_bare_row {f : Addr} {fd : FuncData} (F : Fun K "is_bare_row" "is_bare_row" st_is_bare_row f fd) (T : Txt K mg) : FnOk P w K mg base CX0 3 f fd ["letters", "value", "most"] (spIsBareRow K) := by
  have c_is_row : Cl P w K mg base 2 "is_row" (spIsRow K) := cl_is_row T
  have c_is_reduced : Cl P w K mg base 1 "is_reduced" (spIsReduced K) := cl_is_reduced T
  refine F.ok sc_is_bare_row (fun vs H Q E h => ?_) (fun cdv A outer s H vs Q E hr h => ?_)
  · obtain ⟨n, m, v, o, rfl, _⟩ := h
    rfl
  · obtain ⟨n, m, v, o, rfl, hm, va, k⟩ := h
    refine ⟨_, (pss_one (ps_ret (pe_and (pe_f c_is_row hr (by decide) rfl (pa_cons (pv 0) (pa_cons (pv 1) (pa_cons (pv 2) pa_nil)))) (pe_one (pe_f c_is_reduced hr (by decide) rfl (pa_cons (pv 1) pa_nil)))))), ?_⟩
    refine ⟨.int n, rfl, v, rfl, .int m, rfl, n, m, v, o, rfl, hm, va, fun H1 e1 => ⟨_, rfl, ?_⟩⟩
    cases va with
    | oth h kt => exact k _ e1
    | @tup a xs os h hl he =>
      show if rowB n m os = true then _ else _
      refine ite2 (fun hb => ?_) fun hb => ?_
      · have hb2 : (!decide (m < (os.length : Int)) && os.all (okE n)) = true := hb
        rw [Bool.and_eq_true, Bool.not_eq_true'] at hb2
        have a1 := of_decide_eq_false hb2.1
        have e := ints_of hl he (all_some hb2.2)
        have el : (intsOf os).length = os.length := by
          have := congrArg List.length e
          rw [List.length_map] at this
          omega
        rw [e] at h
        refine ⟨.ref a, rfl, a, intsOf os, rfl, same_tup e1 h, by omega, fun H2 e2 => ?_⟩
        have := k _ (Same.trans e1 e2)
        have e3 : bareV n m (some os) = nfB (intsOf os) := by
          show (rowB n m os && nfB (intsOf os)) = _
          rw [hb]
          rfl
        rw [e3] at this
        exact this
      · have := k _ e1
        have e3 : bareV n m (some os) = false := by
          show (rowB n m os && nfB (intsOf os)) = _
          rw [Bool.eq_false_iff.mpr hb]
          rfl
        rw [e3] at this
        exact this
theorem cl_is_bare_row (T : Txt K mg) : Cl P w K mg base 3 "is_bare_row" (spIsBareRow K) := by
  obtain ⟨f, fd, F, hm, hb⟩ := T.f_is_bare_row
  exact cl_of (ok_is_bare_row F T) hm F.kp hb
def spChkWord (K : PySem.W.Frag) : Sp := fun vs H Q _ => ∃ (n : Int) (a : Addr) (ns : List Int), vs = [.int n, .ref a] ∧ SqT K H a (ns.map V.int) ∧ Wd n ns ∧ ns.length ≤ 200 ∧ ∀ H', Same H H' → Q .non H'
theorem ok_check_word {f : Addr} {fd : FuncData} (F : Fun K "check_word" "check_word" st_check_word f fd) (T : Txt K mg) : FnOk P w K mg base CX0 4 f fd ["letters", "word"] (spChkWord K) := by
  have c_is_bare_row : Cl P w K mg base 3 "is_bare_row" (spIsBareRow K) := cl_is_bare_row T
  refine F.ok sc_check_word (fun vs H Q E h => ?_) (fun cdv A outer s H vs Q E hr h => ?_)
  · obtain ⟨n, a, ns, rfl, _⟩ := h
    rfl
  · obtain ⟨n, a, ns, rfl, h, hw, hl, k⟩ := h
    refine ⟨_, (pss_one (ps_if (pt_not (pt_val (pe_f c_is_bare_row hr (by decide) rfl (pa_cons (pv 0) (pa_cons (pv 1) (pa_cons (pe_glob rfl T.c_MAX_WORD.choose_spec rel_int) pa_nil)))))) (pss_one ps_never) pss_nil)), ?_⟩
    refine ⟨.int n, rfl, .ref a, rfl, n, 200, .ref a, _, rfl, by decide, va_ints h, fun H1 e1 => ⟨_, rfl, ?_⟩⟩
    show if (!bareB n 200 (ns.map some)) = true then _ else _
    rw [bare_wd hw (by omega)]
    exact k _ e1
theorem cl_check_word (T : Txt K mg) : Cl P w K mg base 4 "check_word" (spChkWord K) := by
  obtain ⟨f, fd, F, hm, hb⟩ := T.f_check_word
  exact cl_of (ok_check_word F T) hm F.kp hb
/-- some words, each at its address -/
def Ws (K : PySem.W.Frag) (H : Hp) (n : Int) (ws : List (Addr × List Int)) : Prop := ∀ p ∈ ws, SqT K H p.1 (p.2.map V.int) ∧ Wd n p.2 ∧ p.2.length ≤ 200
def spChkWords (K : PySem.W.Frag) : Sp := fun vs H Q _ => ∃ (n : Int) (t : Addr) (ws : List (Addr × List Int)), vs = [.int n, .ref t] ∧ 1 ≤ n ∧ n ≤ 5 ∧ SqT K H t (ws.map fun p => V.ref p.1) ∧ Ws K H n ws ∧ ∀ H', Same H H' → Q .non H'
theorem ok_check_words {f : Addr} {fd : FuncData} (F : Fun K "check_words" "check_words" st_check_words f fd) (T : Txt K mg) : FnOk P w K mg base CX0 5 f fd ["letters", "words"] (spChkWords K) := by
  have c_check_letters : Cl P w K mg base 3 "check_letters" spChkLetters := cl_check_letters T
  have c_check_word : Cl P w K mg base 4 "check_word" (spChkWord K) := cl_check_word T
  refine F.ok sc_check_words (fun vs H Q E h => ?_) (fun cdv A outer s H vs Q E hr h => ?_)
  · obtain ⟨n, t, ws, rfl, _⟩ := h
    rfl
  · obtain ⟨n, t, ws, rfl, n1, n5, ht, hw, k⟩ := h
    refine ⟨_, (pss_cons (ps_expr (pe_f c_check_letters hr (by decide) rfl (pa_cons (pv 0) pa_nil))) (pss_one (ps_for PassesOwn.never rfl (kpi_tup (K := K) (pv 1)) (pg_name (i := 2) sc_check_words.nd rfl (Or.inl rfl)) (pss_one (ps_expr (pe_f c_check_word hr (by decide) rfl (pa_cons (pv 0) (pa_cons (pv 2) pa_nil)))))))), ?_⟩
    refine ⟨.int n, rfl, n, rfl, n1, n5, .ref t, rfl, t, rfl, ⟨_, ht⟩, for_tup (K := K) (a := t) (xs := ws.map fun p => V.ref p.1) (fun _ σ H' => Same H H' ∧ ∃ x, σ = [some (.int n), some (.ref t), x]) ⟨Same.refl _, none, rfl⟩ (fun _ σ H' _ p => same_tup p.1 ht) (fun i x σ H' hx p => ?_) fun σ H' p => k _ p.1⟩
    obtain ⟨e1, y, rfl⟩ := p
    rw [List.getElem?_map] at hx
    cases q : ws[i]? with
    | none => rw [q] at hx; cases hx
    | some u =>
      rw [q] at hx
      cases hx
      obtain ⟨h1, h2, h3⟩ := hw u (List.mem_of_getElem? q)
      exact ⟨.int n, rfl, .ref u.1, rfl, n, u.1, u.2, rfl, same_tup e1 h1, h2, h3, fun H2 e2 => ⟨Same.trans e1 e2, _, rfl⟩⟩
theorem cl_check_words (T : Txt K mg) : Cl P w K mg base 5 "check_words" (spChkWords K) := by
  obtain ⟨f, fd, F, hm, hb⟩ := T.f_check_words
  exact cl_of (ok_check_words F T) hm F.kp hb
def spIsWord (K : PySem.W.Frag) : Sp := fun vs H Q _ => ∃ (n : Int) (v : V) (o : Option (List (Option Int))), vs = [.int n, v] ∧ 1 ≤ n ∧ n ≤ 5 ∧ Va K H v o ∧ ∀ H', Same H H' → Q (.bl (bareV n 200 o)) H'
theorem ok_is_word {f : Addr} {fd : FuncData} (F : Fun K "is_word" "is_word" st_is_word f fd) (T : Txt K mg) : FnOk P w K mg base CX0 4 f fd ["letters", "value"] (spIsWord K) := by
  have c_check_letters : Cl P w K mg base 3 "check_letters" spChkLetters := cl_check_letters T
  have c_is_bare_row : Cl P w K mg base 3 "is_bare_row" (spIsBareRow K) := cl_is_bare_row T
  refine F.ok sc_is_word (fun vs H Q E h => ?_) (fun cdv A outer s H vs Q E hr h => ?_)
  · obtain ⟨n, v, o, rfl, _⟩ := h
    rfl
  · obtain ⟨n, v, o, rfl, n1, n5, va, k⟩ := h
    refine ⟨_, (pss_cons (ps_expr (pe_f c_check_letters hr (by decide) rfl (pa_cons (pv 0) pa_nil))) (pss_one (ps_ret (pe_f c_is_bare_row hr (by decide) rfl (pa_cons (pv 0) (pa_cons (pv 1) (pa_cons (pe_glob rfl T.c_MAX_WORD.choose_spec rel_int) pa_nil))))))), ?_⟩
    exact ⟨.int n, rfl, n, rfl, n1, n5, .int n, rfl, v, rfl, n, 200, v, o, rfl, by decide, va, k⟩
theorem cl_is_word (T : Txt K mg) : Cl P w K mg base 4 "is_word" (spIsWord K) := by
  obtain ⟨f, fd, F, hm, hb⟩ := T.f_is_word
  exact cl_of (ok_is_word F T) hm F.kp hb
/-- what a turn does to the pile, and its reading -/
theorem act_take {ns : List Int} {i : Nat} {e : Int} (h : ns[i]? = some e) : Fr.act (ns.take (i + 1)) [] = Fr.push e (Fr.act (ns.take i) []) := by
  rw [List.take_succ, h]
  show Fr.act (ns.take i ++ [e]) [] = _
  rw [Fr.act_app]
  rfl
def kp (ns : List Int) (i : Nat) : List V := ((Fr.act (ns.take i) []).reverse).map V.int
theorem kp_len (ns : List Int) (i : Nat) : (kp ns i).length ≤ ns.length := by
  unfold kp
  rw [List.length_map, List.length_reverse]
  have h := len_act (ns.take i) []
  rw [List.length_take] at h
  simp at h
  omega
theorem get_int {ns : List Int} {i : Nat} {x : V} (h : (ns.map V.int)[i]? = some x) : ∃ e, ns[i]? = some e ∧ x = .int e := by
  rw [List.getElem?_map] at h
  cases q : ns[i]? with
  | none => rw [q] at h; cases h
  | some e => rw [q] at h; exact ⟨e, rfl, (Option.some.inj h).symm⟩
theorem kp_end (ns : List Int) : kp ns ns.length = (Fr.red ns).map V.int := by
  unfold kp Fr.red
  rw [List.take_length]
def SqA (K : PySem.W.Frag) (H : Hp) (a : Addr) (xs : List V) : Prop := SqL K H a xs ∨ SqT K H a xs
def spReduced (K : PySem.W.Frag) : Sp := fun vs H Q _ => ∃ (a : Addr) (ns : List Int), vs = [.ref a] ∧ SqA K H a (ns.map V.int) ∧ ns.length ≤ 20000 ∧ ∀ H' p, Same H H' → SqT K H' p ((Fr.red ns).map V.int) → Q (.ref p) H'
theorem ok_reduced {f : Addr} {fd : FuncData} (F : Fun K "reduced" "reduced" st_reduced f fd) (T : Txt K mg) : FnOk P w K mg base CX0 1 f fd ["row"] (spReduced K) := by
  refine F.ok sc_reduced (fun vs H Q E h => ?_) (fun cdv A outer s H vs Q E hr h => ?_)
  · obtain ⟨a, ns, rfl, _⟩ := h
    rfl
  · obtain ⟨a, ns, rfl, h, hz, k⟩ := h
    let Pv : Addr → Nat → L2.St → Hp → Prop := fun l i σ H' => ∃ x, σ = [some (.ref a), some (.ref l), x] ∧ H' = upd H l (.lst (kp ns i))
    have zl : ∀ {j : Nat}, j ≤ ns.length → j < sizeLine := fun hj => Nat.lt_of_le_of_lt (Nat.le_trans hj hz) (by decide)
    have last : ∀ (l : Addr) (σ : L2.St) (H' : Hp), H l = none → Pv l (ns.map V.int).length σ H' → (tRet (tCB (rTupOf K) (tCons (tVar 1) tNil))) { nx := fun _ H' => Q .non H', rt := Q } σ H' := fun l σ H' hl ⟨x, es, eh⟩ => by
      subst es eh
      refine ⟨.ref l, rfl, l, _, rfl, .inl ⟨lst_of upd_same, fun q hq => k _ _ (Same.trans (new_same hl) (new_same hq)) (tup_of ?_)⟩⟩
      rw [upd_same, List.length_map, kp_end]
    rcases h with h | h
    · refine ⟨_, (pss_cons (ps_set (i := 1) sc_reduced.nd rfl (Or.inl rfl) (pe_lst pa_nil)) (pss_cons (ps_for PassesOwn.never rfl (kpi_list (K := K) (pv 0)) (pg_name (i := 2) sc_reduced.nd rfl (Or.inl rfl)) (pss_one (ps_if (PW.pt (pw_and (kpt_truth (K := K) (pv 1) (by intro _; rfl)) (pw_and1 (pt_cmpR op_eq (pe_ix (kix_list (K := K)) (pv 1) (pe_un un_neg pe_int) (fun _ _ => rfl)) (pe_un un_neg (pv 2)) (nomark _))))) (pss_one (ps_expr (pe_bm0 PySem.F.plainAttrs_list PySem.F.slot_list_pop PySem.F.type_list_pop mt_pop (pv 1)))) (pss_one (ps_expr (pe_bm PySem.F.plainAttrs_list PySem.F.slot_list_append PySem.F.type_list_append mt_append (pv 1) (pa_cons (pv 2) pa_nil))))))) (pss_one (ps_ret (pe_callTy (kcall_tuple (K := K)) (by rfl) T.n_tuple bo_tuple (pa_cons (pv 1) pa_nil)))))), ?_⟩
      refine ⟨Nat.zero_le _, fun l hl => ⟨.ref a, rfl, a, rfl, ⟨_, (Rs.same (S := none) True.intro (new_same hl)).lst (fun q => nomatch q) h⟩, for_list (K := K) (a := a) (xs := ns.map V.int) (Pv l) ⟨none, rfl, rfl⟩ (fun i σ H' _ p => ?_) (fun i x σ H' hx p => ?_) fun σ H' p => last l σ H' hl p⟩⟩
      · obtain ⟨x, _, rfl⟩ := p
        exact (Rs.same (S := none) True.intro (new_same hl)).lst (fun q => nomatch q) h
      · obtain ⟨y, rfl, rfl⟩ := p
        obtain ⟨e, he, rfl⟩ := get_int hx
        have at1 := act_take he
        cases q : Fr.act (ns.take i) [] with
        | nil =>
          have ek : kp ns i = [] := by unfold kp; rw [q]; rfl
          have ek1 : kp ns (i + 1) = [.int e] := by unfold kp; rw [at1, q]; rfl
          refine ⟨.ref l, rfl, false, .inl ⟨_, lst_of upd_same, by rw [ek]; rfl⟩, ?_⟩
          refine ⟨.ref l, rfl, .inl ⟨rfl, _, SqL.of upd_same⟩, .int e, rfl, l, _, _, rfl, rfl, upd_same, zl (kp_len ns i), some (.int e), rfl, ?_⟩
          rw [upd_upd, ek, ek1]
          rfl
        | cons y1 t =>
          have ek : kp ns i = (t.reverse.map V.int) ++ [.int y1] := by unfold kp; rw [q, List.reverse_cons, List.map_append]; rfl
          refine ⟨.ref l, rfl, true, .inl ⟨_, lst_of upd_same, by rw [ek]; simp⟩, ?_⟩
          refine ⟨.ref l, rfl, 1, rfl, l, _, _, .int y1, rfl, rfl, lst_of upd_same, by rw [ek]; exact atI_last _ _, .int e, rfl, e, rfl, rfl, _, rfl, ?_⟩
          refine ite2 (fun h1 => ?_) fun h1 => ?_
          · have h1 : y1 = -e := V.int.inj (of_decide_eq_true h1)
            have ek1 : kp ns (i + 1) = t.reverse.map V.int := by unfold kp; rw [at1, q, Fr.push_eq h1]
            refine ⟨.ref l, rfl, .inl ⟨rfl, _, SqL.of upd_same⟩, l, _, .int y1, rfl, rfl, upd_same, by rw [ek]; simp, some (.int e), rfl, ?_⟩
            rw [upd_upd, ek, ek1, List.dropLast_concat]
          · have h1 : ¬ y1 = -e := fun z => h1 (decide_eq_true (congrArg V.int z))
            have ek1 : kp ns (i + 1) = kp ns i ++ [.int e] := by unfold kp; rw [at1, q, Fr.push_on h1, List.reverse_cons, List.map_append]; rfl
            refine ⟨.ref l, rfl, .inl ⟨rfl, _, SqL.of upd_same⟩, .int e, rfl, l, _, _, rfl, rfl, upd_same, zl (kp_len ns i), some (.int e), rfl, ?_⟩
            rw [upd_upd, ek1]
    · refine ⟨_, (pss_cons (ps_set (i := 1) sc_reduced.nd rfl (Or.inl rfl) (pe_lst pa_nil)) (pss_cons (ps_for PassesOwn.never rfl (kpi_tup (K := K) (pv 0)) (pg_name (i := 2) sc_reduced.nd rfl (Or.inl rfl)) (pss_one (ps_if (PW.pt (pw_and (kpt_truth (K := K) (pv 1) (by intro _; rfl)) (pw_and1 (pt_cmpR op_eq (pe_ix (kix_list (K := K)) (pv 1) (pe_un un_neg pe_int) (fun _ _ => rfl)) (pe_un un_neg (pv 2)) (nomark _))))) (pss_one (ps_expr (pe_bm0 PySem.F.plainAttrs_list PySem.F.slot_list_pop PySem.F.type_list_pop mt_pop (pv 1)))) (pss_one (ps_expr (pe_bm PySem.F.plainAttrs_list PySem.F.slot_list_append PySem.F.type_list_append mt_append (pv 1) (pa_cons (pv 2) pa_nil))))))) (pss_one (ps_ret (pe_callTy (kcall_tuple (K := K)) (by rfl) T.n_tuple bo_tuple (pa_cons (pv 1) pa_nil)))))), ?_⟩
      refine ⟨Nat.zero_le _, fun l hl => ⟨.ref a, rfl, a, rfl, ⟨_, same_tup (new_same hl) h⟩, for_tup (K := K) (a := a) (xs := ns.map V.int) (Pv l) ⟨none, rfl, rfl⟩ (fun i σ H' _ p => ?_) (fun i x σ H' hx p => ?_) fun σ H' p => last l σ H' hl p⟩⟩
      · obtain ⟨x, _, rfl⟩ := p
        exact same_tup (new_same hl) h
      · obtain ⟨y, rfl, rfl⟩ := p
        obtain ⟨e, he, rfl⟩ := get_int hx
        have at1 := act_take he
        cases q : Fr.act (ns.take i) [] with
        | nil =>
          have ek : kp ns i = [] := by unfold kp; rw [q]; rfl
          have ek1 : kp ns (i + 1) = [.int e] := by unfold kp; rw [at1, q]; rfl
          refine ⟨.ref l, rfl, false, .inl ⟨_, lst_of upd_same, by rw [ek]; rfl⟩, ?_⟩
          refine ⟨.ref l, rfl, .inl ⟨rfl, _, SqL.of upd_same⟩, .int e, rfl, l, _, _, rfl, rfl, upd_same, zl (kp_len ns i), some (.int e), rfl, ?_⟩
          rw [upd_upd, ek, ek1]
          rfl
        | cons y1 t =>
          have ek : kp ns i = (t.reverse.map V.int) ++ [.int y1] := by unfold kp; rw [q, List.reverse_cons, List.map_append]; rfl
          refine ⟨.ref l, rfl, true, .inl ⟨_, lst_of upd_same, by rw [ek]; simp⟩, ?_⟩
          refine ⟨.ref l, rfl, 1, rfl, l, _, _, .int y1, rfl, rfl, lst_of upd_same, by rw [ek]; exact atI_last _ _, .int e, rfl, e, rfl, rfl, _, rfl, ?_⟩
          refine ite2 (fun h1 => ?_) fun h1 => ?_
          · have h1 : y1 = -e := V.int.inj (of_decide_eq_true h1)
            have ek1 : kp ns (i + 1) = t.reverse.map V.int := by unfold kp; rw [at1, q, Fr.push_eq h1]
            refine ⟨.ref l, rfl, .inl ⟨rfl, _, SqL.of upd_same⟩, l, _, .int y1, rfl, rfl, upd_same, by rw [ek]; simp, some (.int e), rfl, ?_⟩
            rw [upd_upd, ek, ek1, List.dropLast_concat]
          · have h1 : ¬ y1 = -e := fun z => h1 (decide_eq_true (congrArg V.int z))
            have ek1 : kp ns (i + 1) = kp ns i ++ [.int e] := by unfold kp; rw [at1, q, Fr.push_on h1, List.reverse_cons, List.map_append]; rfl
            refine ⟨.ref l, rfl, .inl ⟨rfl, _, SqL.of upd_same⟩, .int e, rfl, l, _, _, rfl, rfl, upd_same, zl (kp_len ns i), some (.int e), rfl, ?_⟩
            rw [upd_upd, ek1]
theorem cl_reduced (T : Txt K mg) : Cl P w K mg base 1 "reduced" (spReduced K) := by
  obtain ⟨f, fd, F, hm, hb⟩ := T.f_reduced
  exact cl_of (ok_reduced F T) hm F.kp hb
def spOpp (K : PySem.W.Frag) : Sp := fun vs H Q _ => ∃ (a : Addr) (ns : List Int), vs = [.ref a] ∧ SqT K H a (ns.map V.int) ∧ ns.length ≤ 20000 ∧ ∀ H' p, Same H H' → SqT K H' p ((Fr.opp ns).map V.int) → Q (.ref p) H'
theorem opp_take (ns : List Int) (i : Nat) (e : Int) (h : ns.reverse[i]? = some e) : (ns.reverse.take (i + 1)).map (fun x => -x) = (ns.reverse.take i).map (fun x => -x) ++ [-e] := by
  rw [List.take_succ, h, List.map_append]
  rfl
theorem opp_all (ns : List Int) : (ns.reverse.take ns.length).map (fun x => -x) = Fr.opp ns := by
  rw [List.take_of_length_le (by rw [List.length_reverse]; exact Nat.le_refl _), List.map_reverse]
  rfl
theorem ok_opposite {f : Addr} {fd : FuncData} (F : Fun K "opposite" "opposite" st_opposite f fd) (T : Txt K mg) : FnOk P w K mg base CX0 1 f fd ["row"] (spOpp K) := by
  refine F.ok sc_opposite (fun vs H Q E h => ?_) (fun cdv A outer s H vs Q E hr h => ?_)
  · obtain ⟨a, ns, rfl, _⟩ := h
    rfl
  · obtain ⟨a, ns, rfl, h, hz, k⟩ := h
    refine ⟨_, (pss_one (ps_ret (pe_callTy (kcall_tuple (K := K)) (by rfl) T.n_tuple bo_tuple (pa_cons (pe_lc (own := [("entry", 1)]) rfl sc_opposite.nd (kpi_tup (K := K) (kpe_revT (K := K) (pv 0))) (blkOk_by (N := nm_opposite) (sc := defScope st_opposite) (by decide +kernel)) (fun _ _ _ _ _ => (pg_name (i := 1) sc_opposite.nd rfl (by first | exact Or.inl rfl | exact Or.inr rfl))) (fun _ _ _ _ _ => pts_nil) (fun _ _ _ _ _ => (pe_un un_neg (pv 1)))) pa_nil)))), ?_⟩
    refine ⟨.ref a, rfl, a, _, rfl, h, fun p hp => ⟨p, rfl, ⟨_, tup_of upd_same⟩, fun D hD => lc_tup (K := K) (a := p) (xs := (ns.map V.int).reverse) (fun i H' => Same (upd H p (.tup (ns.map V.int).reverse)) H' ∧ H' D = some (.lst (((ns.reverse.take i).map fun x => -x).map V.int))) ⟨new_same hD, upd_same⟩ (fun i H' _ q => same_tup q.1 (tup_of upd_same)) (fun i x H' hx q => ?_) fun H' q => ?_⟩⟩
    · rw [← List.map_reverse] at hx
      have hi : i < ns.length := by
        have := (List.getElem?_eq_some_iff.mp hx).1
        rw [List.length_map, List.length_reverse] at this
        exact this
      rw [List.getElem?_map] at hx
      cases z : ns.reverse[i]? with
      | none => rw [z] at hx; cases hx
      | some e =>
        rw [z] at hx
        cases hx
        refine ⟨rfl, .int e, rfl, e, rfl, _, q.2, Nat.lt_of_le_of_lt (Nat.le_trans (by rw [List.length_map, List.length_map, List.length_take]; omega) hz) (by decide), same_mut q.1 hD, ?_⟩
        rw [upd_same, opp_take ns i e z, List.map_append]
        rfl
    · refine ⟨D, _, rfl, .inl ⟨lst_of q.2, fun l hl => k _ _ (Same.trans (Same.trans (new_same hp) q.1) (new_same hl)) (tup_of ?_)⟩⟩
      rw [upd_same, List.length_reverse, List.length_map, opp_all]
theorem cl_opposite (T : Txt K mg) : Cl P w K mg base 1 "opposite" (spOpp K) := by
  obtain ⟨f, fd, F, hm, hb⟩ := T.f_opposite
  exact cl_of (ok_opposite F T) hm F.kp hb
/-- a word in its two parts -/
def Spl (ns c m : List Int) : Prop := ns = c ++ m ++ Fr.opp c ∧ (ns = [] → c = [] ∧ m = []) ∧ (ns ≠ [] → m ≠ [] ∧ ∀ x y, m.getLast? = some x → m.head? = some y → x ≠ -y)
def spSplit (K : PySem.W.Frag) : Sp := fun vs H Q _ => ∃ (n : Int) (a : Addr) (ns : List Int), vs = [.ref a] ∧ SqT K H a (ns.map V.int) ∧ Wd n ns ∧ ns.length ≤ 20000 ∧
  ∀ H' p pc pm c m, Same H H' → Spl ns c m → SqT K H' p [.ref pc, .ref pm] → SqT K H' pc (c.map V.int) → SqT K H' pm (m.map V.int) → Q (.ref p) H'
theorem ok_split_core {f : Addr} {fd : FuncData} (F : Fun K "split_core" "split_core" st_split_core f fd) (T : Txt K mg) : FnOk P w K mg base CX0 1 f fd ["row"] (spSplit K) := by
  refine F.ok sc_split_core (fun vs H Q E h => ?_) (fun cdv A outer s H vs Q E hr h => ?_)
  · obtain ⟨n, a, ns, rfl, _⟩ := h
    rfl
  · obtain ⟨n, a, ns, rfl, h, hw, hz, k⟩ := h
    refine ⟨_, (pss_cons (ps_set (i := 1) sc_split_core.nd rfl (Or.inl rfl) (pe_callB (kcall_len (K := K)) (by rfl) T.n_len bo_len (pa_cons (pv 0) pa_nil))) (pss_cons (ps_set (i := 2) sc_split_core.nd rfl (Or.inl rfl) pe_int) (pss_cons (ps_while PassesOwn.never (PW.pt (pw_and (pt_cmpR op_lt (pe_op op_add (pe_op op_mul pe_int (pv 2)) pe_int) (pv 1) (nomark _)) (pw_and1 (pt_cmpR op_eq (pe_ix (kix_tup (K := K)) (pv 0) (pv 2) (fun _ _ => rfl)) (pe_un un_neg (pe_ix (kix_tup (K := K)) (pv 0) (pe_op op_sub (pe_op op_sub (pv 1) pe_int) (pv 2)) (fun _ _ => rfl))) (nomark _))))) (pss_one (ps_aug (i := 2) sc_split_core.nd rfl (Or.inl rfl) pe_int ip_add))) (pss_one (ps_ret (pe_tup (pa_cons (pe_slice (ksl_tupA (K := K)) (pv 0) po_none (po_some (pv 2))) (pa_cons (pe_slice (ksl_tupA (K := K)) (pv 0) (po_some (pv 2)) (po_some (pe_op op_sub (pv 1) (pv 2)))) pa_nil)))))))), ?_⟩
    refine ⟨.ref a, rfl, a, _, rfl, .inr h, ?_⟩
    rw [show (((ns.map V.int).length : Nat) : Int) = (ns.length : Int) by rw [List.length_map]]
    have fin : ∀ d : Nat, Pal ns d → ¬ (2 * d + 1 < ns.length ∧ ns.getD d 0 = - ns.getD (ns.length - 1 - d) 0) → (tRet (tTup (tCons (tSl (rSlA K) (tVar 0) tNoPart (tPart (tVar 2))) (tCons (tSl (rSlA K) (tVar 0) (tPart (tVar 2)) (tPart (tOp (rI0 fun i j => V.int (i - j)) (tVar 1) (tVar 2)))) tNil)))) { nx := fun _ H' => Q .non H', rt := Q } [some (.ref a), some (.int (ns.length : Int)), some (.int (d : Int))] H := fun d hp hs => by
      have h2d := hp.1
      refine ⟨.ref a, rfl, .int (d : Int), rfl, (d : Int), rfl, sl_ints h fun H1 pc e1 hc => ?_⟩
      rw [cutI_to] at hc
      refine ⟨.ref a, rfl, .int (d : Int), rfl, (d : Int), rfl, .int (ns.length : Int), rfl, .int (d : Int), rfl, _, _, rfl, rfl, _, rfl, sl_ints (same_tup e1 h) fun H2 pm e2 hm => ?_⟩
      rw [show (ns.length : Int) - (d : Int) = ((ns.length - d : Nat) : Int) by omega, cutI_mid ns d (ns.length - d) (by omega) (by omega)] at hm
      refine ⟨by show 2 ≤ sizeLine; decide, fun p hpn => k _ p pc pm (ns.take d) _ (Same.trans (Same.trans e1 e2) (new_same hpn)) ⟨pal_split hp, fun q => ?_, fun q => pal_mid hw hp q hs⟩ (tup_of upd_same) (same_tup (Same.trans e2 (new_same hpn)) hc) (same_tup (new_same hpn) hm)⟩
      subst q
      simp
    refine ⟨fun m σ H' => ∃ d : Nat, m = ns.length - d ∧ Pal ns d ∧ H' = H ∧ σ = [some (.ref a), some (.int (ns.length : Int)), some (.int (d : Int))], ⟨ns.length, 0, rfl, ⟨Nat.zero_le _, fun j hj => absurd hj (Nat.not_lt_zero _)⟩, rfl, rfl⟩, fun m σ H' ⟨d, hm, hp, eH, es⟩ => ?_⟩
    subst eH es
    have h2d := hp.1
    refine ⟨.int (d : Int), rfl, 2, (d : Int), rfl, rfl, .inl ⟨by decide, by decide⟩, _, _, rfl, rfl, .int (ns.length : Int), rfl, _, _, rfl, rfl, _, rfl, ?_⟩
    refine ite2 (fun h1 => ?_) fun h1 => ?_
    · have h1 : (2 : Int) * d + 1 < ns.length := of_decide_eq_true h1
      refine ⟨.ref a, rfl, .int (d : Int), rfl, a, _, _, _, rfl, rfl, h, at_int (j := d) rfl (by omega), ?_⟩
      refine ⟨.ref a, rfl, .int (ns.length : Int), rfl, _, _, rfl, rfl, .int (d : Int), rfl, _, _, rfl, rfl, a, _, _, _, rfl, rfl, h, at_int (j := ns.length - 1 - d) (by omega) (by omega), _, rfl, rfl, _, rfl, ?_⟩
      rw [dec_int]
      refine ite2 (fun h2 => ?_) fun h2 => ?_
      · have h2 := of_decide_eq_true h2
        refine ⟨fun σ' H2 => H2 = H' ∧ σ' = [some (.ref a), some (.int (ns.length : Int)), some (.int ((d : Int) + 1))], fun σ' H' ⟨e1, e2⟩ => ⟨ns.length - (d + 1), by omega, d + 1, rfl, ⟨by omega, fun j hj => ?_⟩, e1, e2⟩, .int (d : Int), rfl, _, _, rfl, rfl, rfl, rfl⟩
        by_cases hjd : j = d
        · subst hjd; exact h2
        · exact hp.2 j (by omega)
      · exact fin d hp fun q => h2 (decide_eq_true q.2)
    · have h1 : ¬ (2 : Int) * d + 1 < ns.length := fun q => h1 (decide_eq_true q)
      exact fin d hp fun q => h1 (by omega)
theorem cl_split_core (T : Txt K mg) : Cl P w K mg base 1 "split_core" (spSplit K) := by
  obtain ⟨f, fd, F, hm, hb⟩ := T.f_split_core
  exact cl_of (ok_split_core F T) hm F.kp hb
/-- some tuples of numbers, each at its address -/
def Tis (K : PySem.W.Frag) (H : Hp) (ws : List (Addr × List Int)) : Prop := ∀ p ∈ ws, SqT K H p.1 (p.2.map V.int)
def fl (ws : List (Addr × List Int)) : List Int := (ws.map (·.2)).flatten
theorem fl_take {ws : List (Addr × List Int)} {i : Nat} {u : Addr × List Int} (h : ws[i]? = some u) : fl (ws.take (i + 1)) = fl (ws.take i) ++ u.2 := by
  unfold fl
  rw [List.take_succ, h, List.map_append, List.flatten_append]
  show _ ++ (u.2 ++ []) = _
  rw [List.append_nil]
theorem len_app_le {a b c : List Int} (h : a ++ b = c) : a.length ≤ c.length := by
  rw [← h, List.length_append]
  omega
theorem fl_take_le (ws : List (Addr × List Int)) (i : Nat) : (fl (ws.take i)).length ≤ (fl ws).length := by
  refine len_app_le (b := fl (ws.drop i)) ?_
  unfold fl
  rw [← List.flatten_append, ← List.map_append, List.take_append_drop]
def spJoined (K : PySem.W.Frag) : Sp := fun vs H Q _ => ∃ (t : Addr) (ws : List (Addr × List Int)), vs = [.ref t] ∧ SqT K H t (ws.map fun p => V.ref p.1) ∧ Tis K H ws ∧ (fl ws).length ≤ 20000 ∧ ∀ H' p, Same H H' → SqT K H' p ((Fr.red (fl ws)).map V.int) → Q (.ref p) H'
theorem ok_product_of {f : Addr} {fd : FuncData} (F : Fun K "product_of" "product_of" st_product_of f fd) (T : Txt K mg) : FnOk P w K mg base CX0 2 f fd ["rows"] (spJoined K) := by
  have c_reduced : Cl P w K mg base 1 "reduced" (spReduced K) := cl_reduced T
  refine F.ok sc_product_of (fun vs H Q E h => ?_) (fun cdv A outer s H vs Q E hr h => ?_)
  · obtain ⟨t, ws, rfl, _⟩ := h
    rfl
  · obtain ⟨t, ws, rfl, ht, hw, hz, k⟩ := h
    refine ⟨_, (pss_one (ps_ret (pe_f c_reduced hr (by decide) rfl (pa_cons (pe_lc2 (own := [("row", 1), ("entry", 2)]) (vs1 := [2]) rfl sc_product_of.nd (kpi_tup (K := K) (pv 0)) (blkOk_by (N := nm_product_of) (sc := defScope st_product_of) (by decide +kernel)) (by decide) (fun _ _ _ _ _ => (pg_name (i := 1) sc_product_of.nd rfl (by first | exact Or.inl rfl | exact Or.inr rfl))) (fun _ _ _ _ _ => pts_nil) (fun _ _ _ _ _ => (kpi_tup (K := K) (pv 1))) (fun _ _ _ _ _ => (pg_name (i := 2) sc_product_of.nd rfl (by first | exact Or.inl rfl | exact Or.inr rfl))) (fun _ _ _ _ _ => pts_nil) (fun _ _ _ _ _ => (pv 2))) pa_nil)))), ?_⟩
    refine ⟨.ref t, rfl, t, rfl, ⟨_, ht⟩, fun D hD => ?_⟩
    refine ⟨fun i m H' => m = ws.length - i ∧ i ≤ ws.length ∧ Same H H' ∧ H' D = some (.lst ((fl (ws.take i)).map V.int)), ⟨ws.length, by simp, Nat.zero_le _, new_same hD, upd_same⟩, fun i m H1 ⟨e1, i1, s1, d1⟩ => ?_⟩
    have t1 := same_tup s1 ht
    by_cases hi : i < ws.length
    · have hu : ws[i]? = some ws[i] := List.getElem?_eq_getElem hi
      generalize ws[i] = u at hu
      have hu' := hw u (List.mem_of_getElem? hu)
      refine .inr ⟨⟨_, .ref u.1, t1, by rw [List.getElem?_map, hu]; rfl⟩, fun H' => i + 1 ≤ ws.length ∧ Same H H' ∧ H' D = some (.lst ((fl (ws.take (i + 1))).map V.int)), fun H' q => ⟨ws.length - (i + 1), by omega, rfl, q⟩, fun x H' y => ?_⟩
      obtain ⟨e2, y⟩ := y
      subst e2
      have hx : x = .ref u.1 := by
        have := y _ t1
        rw [List.getElem?_map, hu] at this
        exact (Option.some.inj this).symm
      subst hx
      refine ⟨rfl, .ref u.1, rfl, u.1, rfl, ⟨_, same_tup s1 hu'⟩, fun j m2 H' => m2 = u.2.length - j ∧ j ≤ u.2.length ∧ Same H H' ∧ H' D = some (.lst ((fl (ws.take i) ++ u.2.take j).map V.int)), ⟨u.2.length, by simp, Nat.zero_le _, s1, by rw [List.take_zero, List.append_nil]; exact d1⟩, fun j m2 H2 ⟨e3, j1, s2, d2⟩ => ?_⟩
      have t2 := same_tup s2 hu'
      by_cases hj : j < u.2.length
      · have hv := getD_of hj
        refine .inr ⟨⟨_, .int (u.2.getD j 0), t2, by rw [List.getElem?_map, hv]; rfl⟩, fun H' => j + 1 ≤ u.2.length ∧ Same H H' ∧ H' D = some (.lst ((fl (ws.take i) ++ u.2.take (j + 1)).map V.int)), fun H' q => ⟨u.2.length - (j + 1), by omega, rfl, q⟩, fun x H' y => ?_⟩
        obtain ⟨e2, y⟩ := y
        subst e2
        have hx : x = .int (u.2.getD j 0) := by
          have := y _ t2
          rw [List.getElem?_map, hv] at this
          exact (Option.some.inj this).symm
        subst hx
        have hle : (fl (ws.take i)).length + u.2.length ≤ 20000 := by
          have := fl_take_le ws (i + 1)
          rw [fl_take hu, List.length_append] at this
          omega
        refine ⟨rfl, .int (u.2.getD j 0), rfl, _, d2, Nat.lt_of_le_of_lt (by rw [List.length_map, List.length_append, List.length_take]; omega : _ ≤ 20000) (by decide), by omega, same_mut s2 hD, ?_⟩
        rw [upd_same, List.take_succ, hv, ← List.append_assoc]
        simp only [List.map_append]
        rfl
      · have hl2 : (u.2.map V.int).length ≤ j := by
          rw [List.length_map]
          exact Nat.not_lt.mp hj
        refine .inl ⟨⟨_, t2, hl2⟩, hi, s2, ?_⟩
        rw [d2, fl_take hu, List.take_of_length_le (Nat.not_lt.mp hj)]
    · have hi2 : i = ws.length := by omega
      subst hi2
      rw [List.take_length] at d1
      refine .inl ⟨⟨_, t1, by rw [List.length_map]; exact Nat.le_refl _⟩, D, fl ws, rfl, .inl (lst_of d1), hz, fun H2 p e2 h2 => k _ _ (Same.trans s1 e2) h2⟩
theorem cl_product_of (T : Txt K mg) : Cl P w K mg base 2 "product_of" (spJoined K) := by
  obtain ⟨f, fd, F, hm, hb⟩ := T.f_product_of
  exact cl_of (ok_product_of F T) hm F.kp hb
def spRep (K : PySem.W.Frag) (ok : Int → Prop) : Sp := fun vs H Q _ => ∃ (n : Int) (a : Addr) (ns : List Int) (m : Int), vs = [.ref a, .int m] ∧ SqT K H a (ns.map V.int) ∧ Wd n ns ∧ ns.length ≤ 200 ∧ m ≤ 50 ∧ -50 ≤ m ∧ ok m ∧
  ∀ H' p, Same H H' → SqT K H' p ((Fr.red (Fr.pw ns m)).map V.int) → Q (.ref p) H'
theorem wd_opp {n : Int} {ns : List Int} (h : Wd n ns) : Wd n (Fr.opp ns) := ⟨lt_opp h.lt, Fr.nf_opp h.nf⟩
theorem pw_neg {ns : List Int} {m : Int} (h : m < 0) : Fr.pw (Fr.opp ns) (-m) = Fr.pw ns m := by
  unfold Fr.pw
  rw [if_neg (by omega), if_pos h]
theorem red_split {n : Int} {ns c m : List Int} (hw : Wd n ns) (s : Spl ns c m) (j : Nat) : Fr.red (Fr.rep ns (j + 1)) = c ++ Fr.rep m (j + 1) ++ Fr.opp c := by
  obtain ⟨s1, s2, s3⟩ := s
  by_cases hn : ns = []
  · obtain ⟨rfl, rfl⟩ := s2 hn
    subst hn
    rw [Fr.rep_nil]
    rfl
  · obtain ⟨m1, m2⟩ := s3 hn
    have hf := hw.nf
    rw [s1] at hf
    have := Fr.red_pow hf m1 m2 j
    rw [← s1] at this
    exact this
theorem spl_len {ns c m : List Int} (s : Spl ns c m) : c.length + m.length + c.length = ns.length := by
  have := congrArg List.length s.1
  rw [List.length_append, List.length_append, Fr.opp_len] at this
  omega
theorem ok_rep {k : Nat} {ok : Int → Prop} {f : Addr} {fd : FuncData} (F : Fun K "repeated" "repeated" st_repeated f fd) (T : Txt K mg) (c_repeated : Cl P w K mg base k "repeated" (spRep K fun m => ok (-m) ∧ 0 < m)) (h1k : 1 ≤ k) : FnOk P w K mg base CX0 (k + 1) f fd ["row", "many"] (spRep K ok) := by
  have c_opposite : Cl P w K mg base 1 "opposite" (spOpp K) := cl_opposite T
  have c_split_core : Cl P w K mg base 1 "split_core" (spSplit K) := cl_split_core T
  refine F.ok sc_repeated (fun vs H Q E h => ?_) (fun cdv A outer s H vs Q E hr h => ?_)
  · obtain ⟨n, a, ns, m, rfl, _⟩ := h
    rfl
  · obtain ⟨n, a, ns, m, rfl, h, hw, hz, m5, m0, hok, q⟩ := h
    refine ⟨_, (pss_cons (ps_if (pt_cmpR op_lt (pv 1) pe_int (nomark _)) (pss_one (ps_ret (pe_f c_repeated hr (by omega) rfl (pa_cons (pe_f c_opposite hr (by omega) rfl (pa_cons (pv 0) pa_nil)) (pa_cons (pe_un un_neg (pv 1)) pa_nil))))) pss_nil) (pss_cons (ps_if (pt_cmpR op_eq (pv 1) pe_int (nomark _)) (pss_one (ps_ret (pe_tup pa_nil))) pss_nil) (pss_cons (ps_asg (pe_f c_split_core hr (by omega) rfl (pa_cons (pv 0) pa_nil)) (kpg_tup (K := K) (n := 2) rfl (pgs_cons (pg_name (i := 2) sc_repeated.nd rfl (Or.inl rfl)) (pgs_cons (pg_name (i := 3) sc_repeated.nd rfl (Or.inl rfl)) pgs_nil)))) (pss_one (ps_ret (pe_op (kop_catA (K := K)) (pe_op (kop_catA (K := K)) (pv 2) (pe_op (kop_repA (K := K)) (pv 3) (pv 1))) (pe_f c_opposite hr (by omega) rfl (pa_cons (pv 2) pa_nil)))))))), ?_⟩
    refine ⟨.int m, rfl, _, _, rfl, rfl, _, rfl, ite2 (fun h1 => ?_) fun h1 => ?_⟩
    · have h1 : m < 0 := of_decide_eq_true h1
      refine ⟨.ref a, rfl, a, ns, rfl, h, by omega, fun H1 b e1 hb => ⟨.int m, rfl, m, rfl, n, b, Fr.opp ns, -m, rfl, hb, wd_opp hw, by rw [Fr.opp_len]; exact hz, by omega, by omega, ⟨by rw [Int.neg_neg]; exact hok, by omega⟩, fun H2 p e2 hp => ?_⟩⟩
      rw [pw_neg h1] at hp
      exact q _ _ (Same.trans e1 e2) hp
    · have h1 : ¬ m < 0 := fun z => h1 (decide_eq_true z)
      refine ⟨.int m, rfl, rfl, _, rfl, ?_⟩
      rw [dec_int]
      refine ite2 (fun h2 => ?_) fun h2 => ?_
      · have h2 : m = 0 := of_decide_eq_true h2
        subst h2
        exact ⟨Nat.zero_le _, fun p hp => q _ _ (new_same hp) (tup_of upd_same)⟩
      · have h2 : ¬ m = 0 := fun z => h2 (decide_eq_true z)
        obtain ⟨j, hj⟩ : ∃ j : Nat, m = ((j + 1 : Nat) : Int) := ⟨(m - 1).toNat, by omega⟩
        refine ⟨.ref a, rfl, n, a, ns, rfl, h, hw, by omega, fun H1 p pc pm c mm e1 hs hp hc hm => ?_⟩
        have hl := spl_len hs
        refine ⟨p, _, rfl, hp, rfl, _, _, rfl, _, _, rfl, rfl, ?_⟩
        refine ⟨.ref pc, rfl, .ref pm, rfl, .int m, rfl, rep_ints hm (by omega) (by omega) (by omega) fun H2 r e2 hr2 => cat_ints (same_tup e2 hc) hr2 ?_ fun H3 t e3 ht => ?_⟩
        · rw [Fr.rep_len]
          have : m.toNat * mm.length ≤ 50 * 200 := Nat.mul_le_mul (by omega) (by omega)
          omega
        · refine ⟨.ref pc, rfl, pc, c, rfl, same_tup (Same.trans e2 e3) hc, by omega, fun H4 u e4 hu => cat_ints (same_tup e4 ht) hu ?_ fun H5 v e5 hv => q _ _ (Same.trans (Same.trans (Same.trans (Same.trans e1 e2) e3) e4) e5) ?_⟩
          · rw [List.length_append, Fr.rep_len, Fr.opp_len]
            have : m.toNat * mm.length ≤ 50 * 200 := Nat.mul_le_mul (by omega) (by omega)
            omega
          · have e : Fr.pw ns m = Fr.rep ns (j + 1) := by
              unfold Fr.pw
              rw [if_neg h1]
              congr 1
              omega
            have e7 : m.toNat = j + 1 := by omega
            rw [e, red_split hw hs j, ← e7]
            exact hv
theorem cl_repeated (T : Txt K mg) : Cl P w K mg base 3 "repeated" (spRep K fun _ => True) := by
  obtain ⟨f, fd, F, hm, hb⟩ := T.f_repeated
  have c0 : Cl P w K mg base 1 "repeated" (spRep K fun m => 0 ≤ -m ∧ 0 < m) := ⟨f, fun A outer s H us vs Q E _ _ _ h => by
    obtain ⟨n, a, ns, m, _, _, _, _, _, _, ⟨h1, h2⟩, _⟩ := h
    omega, hm, F.kp⟩
  have c1 : Cl P w K mg base 2 "repeated" (spRep K fun m => 0 ≤ m) := cl_of (ok_rep (k := 1) (ok := fun m => 0 ≤ m) F T c0 (by decide)) hm F.kp hb
  exact cl_of (ok_rep (k := 2) (ok := fun _ => True) F T (c1.imp fun vs H Q E ⟨n, a, ns, m, h1, h2, h3, h4, h5, h6, h7, h8⟩ => ⟨n, a, ns, m, h1, h2, h3, h4, h5, h6, Int.le_of_lt h7.2, h8⟩) (by decide)) hm F.kp hb
def spBare (K : PySem.W.Frag) : Sp := fun vs H Q _ => ∃ (n : Int) (a : Addr) (ns : List Int), vs = [.int n, .ref a] ∧ 1 ≤ n ∧ n ≤ 5 ∧ SqT K H a (ns.map V.int) ∧ Lt n ns ∧ ns.length ≤ 400 ∧ ∀ H' p, Same H H' → SqT K H' p ((Fr.red ns).map V.int) → Q (.ref p) H'
theorem ok_bare {f : Addr} {fd : FuncData} (F : Fun K "bare" "bare" st_bare f fd) (T : Txt K mg) : FnOk P w K mg base CX0 4 f fd ["letters", "row"] (spBare K) := by
  have c_check_letters : Cl P w K mg base 3 "check_letters" spChkLetters := cl_check_letters T
  have c_is_row : Cl P w K mg base 2 "is_row" (spIsRow K) := cl_is_row T
  have c_reduced : Cl P w K mg base 1 "reduced" (spReduced K) := cl_reduced T
  refine F.ok sc_bare (fun vs H Q E h => ?_) (fun cdv A outer s H vs Q E hr h => ?_)
  · obtain ⟨n, a, ns, rfl, _⟩ := h
    rfl
  · obtain ⟨n, a, ns, rfl, n1, n5, h, hw, hl, k⟩ := h
    refine ⟨_, (pss_cons (ps_expr (pe_f c_check_letters hr (by decide) rfl (pa_cons (pv 0) pa_nil))) (pss_cons (ps_if (pt_not (pt_val (pe_f c_is_row hr (by decide) rfl (pa_cons (pv 0) (pa_cons (pv 1) (pa_cons (pe_glob rfl T.c_MAX_ROW.choose_spec rel_int) pa_nil)))))) (pss_one ps_never) pss_nil) (pss_one (ps_ret (pe_f c_reduced hr (by decide) rfl (pa_cons (pv 1) pa_nil)))))), ?_⟩
    refine ⟨.int n, rfl, n, rfl, n1, n5, .int n, rfl, .ref a, rfl, n, 400, .ref a, _, rfl, by decide, va_ints h, fun H1 e1 => ⟨_, rfl, ?_⟩⟩
    show if (!rowB n 400 (ns.map some)) = true then _ else _
    rw [row_wd hw (by omega)]
    exact ⟨.ref a, rfl, a, ns, rfl, .inr (same_tup e1 h), by omega, fun H2 p e2 hp => k _ _ (Same.trans e1 e2) hp⟩
theorem cl_bare (T : Txt K mg) : Cl P w K mg base 4 "bare" (spBare K) := by
  obtain ⟨f, fd, F, hm, hb⟩ := T.f_bare
  exact cl_of (ok_bare F T) hm F.kp hb
theorem ws_one {H : Hp} {n : Int} {a : Addr} {ns : List Int} (h : SqT K H a (ns.map V.int)) (hw : Wd n ns) (hl : ns.length ≤ 200) : Ws K H n [(a, ns)] := fun p hp => by
  rw [List.mem_singleton.mp hp]
  exact ⟨h, hw, hl⟩
def spContr (K : PySem.W.Frag) : Sp := fun vs H Q _ => ∃ (n : Int) (a : Addr) (ns : List Int), vs = [.int n, .ref a] ∧ 1 ≤ n ∧ n ≤ 5 ∧ SqT K H a (ns.map V.int) ∧ Wd n ns ∧ ns.length ≤ 200 ∧ ∀ H' p, Same H H' → SqT K H' p ((Fr.opp ns).map V.int) → Q (.ref p) H'
theorem ok_contrary {f : Addr} {fd : FuncData} (F : Fun K "contrary" "contrary" st_contrary f fd) (T : Txt K mg) : FnOk P w K mg base CX0 6 f fd ["letters", "word"] (spContr K) := by
  have c_check_words : Cl P w K mg base 5 "check_words" (spChkWords K) := cl_check_words T
  have c_opposite : Cl P w K mg base 1 "opposite" (spOpp K) := cl_opposite T
  refine F.ok sc_contrary (fun vs H Q E h => ?_) (fun cdv A outer s H vs Q E hr h => ?_)
  · obtain ⟨n, a, ns, rfl, _⟩ := h
    rfl
  · obtain ⟨n, a, ns, rfl, n1, n5, h, hw, hl, k⟩ := h
    refine ⟨_, (pss_cons (ps_expr (pe_f c_check_words hr (by decide) rfl (pa_cons (pv 0) (pa_cons (pe_tup (pa_cons (pv 1) pa_nil)) pa_nil)))) (pss_one (ps_ret (pe_f c_opposite hr (by decide) rfl (pa_cons (pv 1) pa_nil))))), ?_⟩
    refine ⟨.int n, rfl, .ref a, rfl, by show 1 ≤ sizeLine; decide, fun t ht => ⟨n, t, [(a, ns)], rfl, n1, n5, tup_of upd_same, ws_one (same_tup (new_same ht) h) hw hl, fun H1 e1 => ?_⟩⟩
    exact ⟨.ref a, rfl, a, ns, rfl, same_tup (Same.trans (new_same ht) e1) h, by omega, fun H2 p e2 hp => k _ _ (Same.trans (Same.trans (new_same ht) e1) e2) hp⟩
theorem cl_contrary (T : Txt K mg) : Cl P w K mg base 6 "contrary" (spContr K) := by
  obtain ⟨f, fd, F, hm, hb⟩ := T.f_contrary
  exact cl_of (ok_contrary F T) hm F.kp hb
def spPow (K : PySem.W.Frag) : Sp := fun vs H Q _ => ∃ (n : Int) (a : Addr) (ns : List Int) (m : Int), vs = [.int n, .ref a, .int m] ∧ 1 ≤ n ∧ n ≤ 5 ∧ SqT K H a (ns.map V.int) ∧ Wd n ns ∧ ns.length ≤ 200 ∧ -50 ≤ m ∧ m ≤ 50 ∧ ∀ H' p, Same H H' → SqT K H' p ((Fr.red (Fr.pw ns m)).map V.int) → Q (.ref p) H'
theorem ok_power {f : Addr} {fd : FuncData} (F : Fun K "power" "power" st_power f fd) (T : Txt K mg) : FnOk P w K mg base CX0 6 f fd ["letters", "word", "many"] (spPow K) := by
  have c_check_words : Cl P w K mg base 5 "check_words" (spChkWords K) := cl_check_words T
  have c_is_within : Cl P w K mg base 2 "is_within" spWithin := cl_is_within T
  have c_repeated : Cl P w K mg base 3 "repeated" (spRep K fun _ => True) := cl_repeated T
  refine F.ok sc_power (fun vs H Q E h => ?_) (fun cdv A outer s H vs Q E hr h => ?_)
  · obtain ⟨n, a, ns, m, rfl, _⟩ := h
    rfl
  · obtain ⟨n, a, ns, m, rfl, n1, n5, h, hw, hl, m0, m5, k⟩ := h
    refine ⟨_, (pss_cons (ps_expr (pe_f c_check_words hr (by decide) rfl (pa_cons (pv 0) (pa_cons (pe_tup (pa_cons (pv 1) pa_nil)) pa_nil)))) (pss_cons (ps_if (pt_not (pt_val (pe_f c_is_within hr (by decide) rfl (pa_cons (pv 2) (pa_cons (pe_un un_neg (pe_glob rfl T.c_MOST_POWER.choose_spec rel_int)) (pa_cons (pe_glob rfl T.c_MOST_POWER.choose_spec rel_int) pa_nil)))))) (pss_one ps_never) pss_nil) (pss_one (ps_ret (pe_f c_repeated hr (by decide) rfl (pa_cons (pv 1) (pa_cons (pv 2) pa_nil))))))), ?_⟩
    refine ⟨.int n, rfl, .ref a, rfl, by show 1 ≤ sizeLine; decide, fun t ht => ⟨n, t, [(a, ns)], rfl, n1, n5, tup_of upd_same, ws_one (same_tup (new_same ht) h) hw hl, fun H1 e1 => ?_⟩⟩
    refine ⟨.int m, rfl, 50, rfl, m, -50, 50, rfl, _, rfl, ?_⟩
    rw [decide_eq_true (show -50 ≤ m ∧ m ≤ 50 from ⟨m0, m5⟩)]
    exact ⟨.ref a, rfl, .int m, rfl, n, a, ns, m, rfl, same_tup (Same.trans (new_same ht) e1) h, hw, hl, m5, m0, True.intro, fun H2 p e2 hp => k _ _ (Same.trans (Same.trans (new_same ht) e1) e2) hp⟩
theorem cl_power (T : Txt K mg) : Cl P w K mg base 6 "power" (spPow K) := by
  obtain ⟨f, fd, F, hm, hb⟩ := T.f_power
  exact cl_of (ok_power F T) hm F.kp hb
def spProd (K : PySem.W.Frag) : Sp := fun vs H Q _ => ∃ (n : Int) (ws : List (Addr × List Int)), vs = .int n :: (ws.map fun p => V.ref p.1) ∧ 1 ≤ n ∧ n ≤ 5 ∧ Ws K H n ws ∧ ws.length ≤ 50 ∧ ∀ H' p, Same H H' → SqT K H' p ((Fr.red (fl ws)).map V.int) → Q (.ref p) H'
def spProd0 (K : PySem.W.Frag) : Sp := fun vs H Q _ => ∃ (n : Int) (t : Addr) (ws : List (Addr × List Int)), vs = [.int n, .ref t] ∧ 1 ≤ n ∧ n ≤ 5 ∧ SqT K H t (ws.map fun p => V.ref p.1) ∧ Ws K H n ws ∧ ws.length ≤ 50 ∧ ∀ H' p, Same H H' → SqT K H' p ((Fr.red (fl ws)).map V.int) → Q (.ref p) H'
theorem fl_len {H : Hp} {n : Int} : ∀ {ws : List (Addr × List Int)}, Ws K H n ws → (fl ws).length ≤ ws.length * 200
  | [], _ => Nat.le_refl _
  | p :: ws, h => by
    have h1 := (h p List.mem_cons_self).2.2
    have h2 := fl_len (ws := ws) fun q hq => h q (List.mem_cons_of_mem _ hq)
    show (p.2 ++ fl ws).length ≤ (ws.length + 1) * 200
    rw [List.length_append, Nat.succ_mul]
    omega
theorem cl_product (T : Txt K mg) : Cl P w K mg base 6 "product" (spProd K) := by
  obtain ⟨f, fd, F, hm⟩ := T.f_product
  have c_check_words : Cl P w K mg base 5 "check_words" (spChkWords K) := cl_check_words T
  have c_product_of : Cl P w K mg base 2 "product_of" (spJoined K) := cl_product_of T
  refine ⟨f, ?_, hm, F.kp⟩
  obtain ⟨oc, od, kV, doc, pm, an, cdv, ct, osl, rfl, lk, hcd⟩ := F.ex
  have G := StX.fn_star (P := P) (w := w) (mg := mg) (base := base) (CX := CX0) (k := 5) (ps := ["letters"]) (pv := "words") (sp := spProd0 K) lk hcd sc_product StX.cxUp_none (StX.bind_star1 (B := fun l => bindArgs (PySem.W.fnOf "product" "product" (defArgs st_product) (defBody st_product) (defScope st_product) .none kV doc pm an cdv ct) ⟨l, []⟩) (fun a => rfl) (fun a r rs => rfl)) (fun A outer s H vs Q E hr h => by
    obtain ⟨n, t, ws, rfl, n1, n5, ht, hw, hl, k⟩ := h
    have body : ∃ t', PSs (cxOf CX0 P w K mg base nm_product "product" (defScope st_product) f cdv A outer s H E).nox (defBody st_product) t' ∧ t' { nx := fun _ H' => Q .non H', rt := Q } (start nm_product [.int n, .ref t]) H := by
      refine ⟨_, (pss_cons (ps_expr (pe_f c_check_words hr (by decide) rfl (pa_cons (pv 0) (pa_cons (pv 1) pa_nil)))) (pss_cons (ps_if (pt_cmpR op_gt (pe_callB (kcall_len (K := K)) (by rfl) T.n_len bo_len (pa_cons (pv 1) pa_nil)) (pe_glob rfl T.c_MOST_MULTIPLIED.choose_spec rel_int) (nomark _)) (pss_one ps_never) pss_nil) (pss_one (ps_ret (pe_f c_product_of hr (by decide) rfl (pa_cons (pv 1) pa_nil)))))), ?_⟩
      refine ⟨.int n, rfl, .ref t, rfl, n, t, ws, rfl, n1, n5, ht, hw, fun H1 e1 => ?_⟩
      refine ⟨.ref t, rfl, t, _, rfl, .inr (same_tup e1 ht), _, _, rfl, rfl, _, rfl, ?_⟩
      rw [decide_eq_false (by rw [List.length_map]; omega)]
      have z := fl_len hw
      exact ⟨.ref t, rfl, t, ws, rfl, same_tup e1 ht, fun p hp => same_tup e1 (hw p hp).1, by omega, fun H2 p e2 hp => k _ _ (Same.trans e1 e2) hp⟩
    obtain ⟨t', ht', q⟩ := body
    exact ⟨t', ht'.nox, q⟩)
  refine G.imp fun vs H Q E h => ?_
  obtain ⟨n, ws, rfl, n1, n5, hw, hl, k⟩ := h
  refine ⟨[.int n], _, rfl, rfl, Nat.le_trans (by rw [List.length_map]; exact hl) (by decide), fun t ht => ⟨n, t, ws, rfl, n1, n5, tup_of upd_same, fun p hp => ?_, hl, fun H2 p e2 hp => k _ _ (Same.trans (new_same ht) e2) hp⟩⟩
  obtain ⟨a1, a2, a3⟩ := hw p hp
  exact ⟨same_tup (new_same ht) a1, a2, a3⟩
def Sack3 (H : Hp) (S : Addr) : Prop := ∃ x y z : Int, H S = some (.lst [.int x, .int y, .int z])
def spSack (K : PySem.W.Frag) : Sp := fun vs H Q _ => ∃ (a : Addr) (ns : List Int) (k : Int), vs = [.ref a, .int k] ∧ SqL K H a (ns.map V.int) ∧ 0 ≤ k ∧ ∀ H' S, Same H H' → H S = none → Sack3 H' S → Q (.ref S) H'
theorem ok__law_sack {f : Addr} {fd : FuncData} (F : Fun K "_law_sack" "_law_sack" st__law_sack f fd) (T : Txt K mg) : FnOk P w K mg base CX0 1 f fd ["script", "spot"] (spSack K) := by
  refine F.ok sc__law_sack (fun vs H Q E h => ?_) (fun cdv A outer s H vs Q E hr h => ?_)
  · obtain ⟨a, ns, m, rfl, _⟩ := h
    rfl
  · obtain ⟨a, ns, m, rfl, h, m0, k⟩ := h
    refine ⟨_, (pss_cons (ps_set (i := 2) sc__law_sack.nd rfl (Or.inl rfl) (pe_ifExp (pt_cmpR op_lt (pv 1) (pe_callB (kcall_len (K := K)) (by rfl) T.n_len bo_len (pa_cons (pv 0) pa_nil)) (nomark _)) (pe_callTy call_int1 (by rfl) T.n_int bo_int (pa_cons (pe_ix (kix_list (K := K)) (pv 0) (pv 1) (fun _ _ => rfl)) pa_nil)) (pe_op op_add (pe_op op_mul pe_int (pv 1)) pe_int))) (pss_cons (ps_set (i := 3) sc__law_sack.nd rfl (Or.inl rfl) (pe_op op_mod (pe_callTy call_int1 (by rfl) T.n_int bo_int (pa_cons (pe_callB call_abs (by rfl) T.n_abs bo_abs (pa_cons (pv 2) pa_nil)) pa_nil)) (pe_op op_powG (pe_op op_powG pe_int pe_int) pe_int))) (pss_one (ps_ret (pe_lst (pa_cons (pe_callB (call_max2 rfl) (by rfl) T.n_max bo_max (pa_cons pe_int (pa_cons (pe_op op_sub (pv 3) (pe_op op_powG pe_int pe_int)) pa_nil))) (pa_cons (pe_op op_add (pe_op op_add (pe_op op_add (pe_op op_mul (pe_op op_mod (pe_callTy call_int1 (by rfl) T.n_int bo_int (pa_cons (pv 3) pa_nil)) pe_int) pe_int) (pe_op op_mul pe_int (pv 1))) (pe_op op_mul pe_int (pe_callTy call_int1 (by rfl) T.n_int bo_int (pa_cons (pe_cmpR op_lt (pv 2) pe_int (nomark _)) pa_nil)))) pe_int) (pa_cons pe_int pa_nil)))))))), ?_⟩
    refine ⟨.int m, rfl, .ref a, rfl, a, _, rfl, .inl h, _, _, rfl, rfl, _, rfl, ite2 (fun h1 => ?_) fun h1 => ?_⟩
    · have h1 : m < ((ns.map V.int).length : Nat) := of_decide_eq_true h1
      rw [List.length_map] at h1
      refine ⟨.ref a, rfl, .int m, rfl, a, _, _, _, rfl, rfl, h, at_int (j := m.toNat) (by omega) (by omega), .inl ⟨_, rfl, ?_⟩⟩
      generalize ns.getD m.toNat 0 = cell
      refine ⟨.int cell, rfl, cell, rfl, .inl ⟨_, rfl, _, _, rfl, rfl, ⟨by decide, by decide +kernel⟩, _, _, rfl, rfl, ⟨by decide, by decide +kernel⟩, _, _, rfl, rfl, (by show (0 : Int) < ((10 : Int) ^ (57 : Int).toNat) ^ (6 : Int).toNat; decide +kernel), ?_⟩⟩
      refine ⟨_, rfl, _, _, rfl, rfl, ⟨by decide, by decide +kernel⟩, _, _, rfl, rfl, _, _, rfl, ?_⟩
      refine ⟨_, rfl, .inl ⟨_, rfl, _, _, rfl, rfl, (by show (0 : Int) < 2147483477; decide), _, _, rfl, rfl, .inr ⟨by decide, by decide⟩, .int m, rfl, _, _, rfl, rfl, .inl ⟨by decide, by decide⟩, _, _, rfl, rfl, .int cell, rfl, _, _, rfl, rfl, .inr ⟨_, rfl, _, _, rfl, rfl, .inl ⟨by decide, by decide⟩, _, _, rfl, rfl, _, _, rfl, rfl, ?_⟩⟩⟩
      refine ⟨by show 3 ≤ sizeLine; decide, fun S hS => k _ _ (new_same hS) hS ⟨_, _, _, upd_same⟩⟩
    · refine ⟨.int m, rfl, _, _, rfl, rfl, .inl ⟨by decide, by decide⟩, _, _, rfl, rfl, ?_⟩
      refine ⟨_, rfl, _, rfl, .inl ⟨_, rfl, _, _, rfl, rfl, ⟨by decide, by decide +kernel⟩, _, _, rfl, rfl, ⟨by decide, by decide +kernel⟩, _, _, rfl, rfl, (by show (0 : Int) < ((10 : Int) ^ (57 : Int).toNat) ^ (6 : Int).toNat; decide +kernel), ?_⟩⟩
      refine ⟨_, rfl, _, _, rfl, rfl, ⟨by decide, by decide +kernel⟩, _, _, rfl, rfl, _, _, rfl, ?_⟩
      refine ⟨_, rfl, .inl ⟨_, rfl, _, _, rfl, rfl, (by show (0 : Int) < 2147483477; decide), _, _, rfl, rfl, .inr ⟨by decide, by decide⟩, .int m, rfl, _, _, rfl, rfl, .inl ⟨by decide, by decide⟩, _, _, rfl, rfl, _, rfl, _, _, rfl, rfl, .inr ⟨_, rfl, _, _, rfl, rfl, .inl ⟨by decide, by decide⟩, _, _, rfl, rfl, _, _, rfl, rfl, ?_⟩⟩⟩
      refine ⟨by show 3 ≤ sizeLine; decide, fun S hS => k _ _ (new_same hS) hS ⟨_, _, _, upd_same⟩⟩
theorem cl__law_sack (T : Txt K mg) : Cl P w K mg base 1 "_law_sack" (spSack K) := by
  obtain ⟨f, fd, F, hm, hb⟩ := T.f__law_sack
  exact cl_of (ok__law_sack F T) hm F.kp hb
def spDrawn : Sp := fun vs H Q _ => ∃ (S : Addr) (t : Int), vs = [.ref S, .int t] ∧ Sk H (some S) ∧ 0 < t ∧ t < 10 ^ 60 ∧ ∀ H' (r : Int), Rs (some S) H H' → 0 ≤ r → r < t → Q (.int r) H'
theorem rs_put {H H1 : Hp} {S : Addr} {x y z : Int} (r : Rs (some S) H H1) : Rs (some S) H (upd H1 S (.lst [.int x, .int y, .int z])) := ⟨r.s0, ⟨x, y, z, upd_same⟩, fun a o n e => by
  rw [upd_ne (fun q => n (by rw [q]))]
  exact r.keep a o n e⟩
theorem ok__law_drawn {f : Addr} {fd : FuncData} (F : Fun K "_law_drawn" "_law_drawn" st__law_drawn f fd) (T : Txt K mg) : FnOk P w K mg base CX0 1 f fd ["sack", "total"] spDrawn := by
  refine F.ok sc__law_drawn (fun vs H Q E h => ?_) (fun cdv A outer s H vs Q E hr h => ?_)
  · obtain ⟨S, t, rfl, _⟩ := h
    rfl
  · obtain ⟨S, t, rfl, hS, t0, t1, k⟩ := h
    have r0 : Rs (some S) H H := .of hS
    obtain ⟨a, b, c, e⟩ := hS
    have md : ∀ i : Int, 0 ≤ i % t ∧ i % t < t := fun i => ⟨Int.emod_nonneg _ (by omega), Int.emod_lt_of_pos _ t0⟩
    refine ⟨_, (pss_cons (ps_if (pt_cmpR op_gt (pe_ix (kix_list (K := K)) (pv 0) pe_int (fun _ _ => rfl)) pe_int (nomark _)) (pss_cons (ps_set (i := 2) sc__law_drawn.nd rfl (Or.inl rfl) (pe_op op_mod (pe_callTy call_int1 (by rfl) T.n_int bo_int (pa_cons (pe_ix (kix_list (K := K)) (pv 0) pe_int (fun _ _ => rfl)) pa_nil)) (pv 1))) (pss_cons (ps_asg (pe_op op_fdivW (pe_ix (kix_list (K := K)) (pv 0) pe_int (fun _ _ => rfl)) (pv 1)) (pg_sub (pv 0) pe_int set_list)) (pss_one (ps_ret (pv 2))))) pss_nil) (pss_cons (ps_asg (pe_op op_add (pe_ix (kix_list (K := K)) (pv 0) pe_int (fun _ _ => rfl)) pe_int) (pg_sub (pv 0) pe_int set_list)) (pss_cons (ps_set (i := 3) sc__law_drawn.nd rfl (Or.inl rfl) (pe_op op_mod (pe_callTy call_int1 (by rfl) T.n_int bo_int (pa_cons (pe_op op_add (pe_ix (kix_list (K := K)) (pv 0) pe_int (fun _ _ => rfl)) (pe_op op_mul pe_int (pe_ix (kix_list (K := K)) (pv 0) pe_int (fun _ _ => rfl)))) pa_nil)) pe_int)) (pss_cons (ps_set (i := 4) sc__law_drawn.nd rfl (Or.inl rfl) (pe_op op_add (pe_op op_mul (pe_op op_mod (pe_callTy call_int1 (by rfl) T.n_int bo_int (pa_cons (pe_op op_add (pe_op op_mul (pv 3) (pv 3)) (pe_op op_mul pe_int (pe_ix (kix_list (K := K)) (pv 0) pe_int (fun _ _ => rfl)))) pa_nil)) pe_int) pe_int) (pv 3))) (pss_one (ps_ret (pe_op op_mod (pe_callTy call_int1 (by rfl) T.n_int bo_int (pa_cons (pe_op op_fdivW (pv 4) pe_int) pa_nil)) (pv 1)))))))), ?_⟩
    refine ⟨.ref S, rfl, S, _, 0, .int a, rfl, rfl, lst_of e, rfl, _, _, rfl, rfl, _, rfl, ite2 (fun h1 => ?_) fun h1 => ?_⟩
    · refine ⟨.ref S, rfl, S, _, 0, .int a, rfl, rfl, lst_of e, rfl, .inl ⟨a, rfl, .int t, rfl, _, _, rfl, rfl, t0, ?_⟩⟩
      refine ⟨.ref S, rfl, S, _, 0, .int a, rfl, rfl, lst_of e, rfl, .int t, rfl, _, _, rfl, rfl, wide_div (b := 200) t0 (by omega) (by decide) (by decide), ?_⟩
      refine ⟨.ref S, rfl, S, _, 0, 0, rfl, rfl, e, rfl, ?_⟩
      exact ⟨.int (a % t), rfl, k _ _ (rs_put r0) (md a).1 (md a).2⟩
    · refine ⟨.ref S, rfl, S, _, 2, .int c, rfl, rfl, lst_of e, rfl, _, _, rfl, rfl, .ref S, rfl, S, _, 2, 2, rfl, rfl, e, rfl, ?_⟩
      refine ⟨.ref S, rfl, S, _, 1, .int b, rfl, rfl, lst_of upd_same, rfl, .ref S, rfl, S, _, 2, .int (c + 1), rfl, rfl, lst_of upd_same, rfl, _, _, rfl, rfl, .inl ⟨by decide, by decide⟩, _, _, rfl, rfl, .inl ⟨_, rfl, _, _, rfl, rfl, (by show (0 : Int) < 2305843009213693951; decide), ?_⟩⟩
      have o1 : ∀ i : Int, 0 ≤ i % 2305843009213693951 ∧ i % 2305843009213693951 < 2305843009213693951 := fun i => ⟨Int.emod_nonneg _ (by omega), Int.emod_lt_of_pos _ (by omega)⟩
      have cm : ∀ i j : Int, CMul (i % 2305843009213693951) j := fun i j => .inl ⟨by have := o1 i; omega, by have := o1 i; omega⟩
      refine ⟨_, rfl, _, rfl, _, _, rfl, rfl, cm _ _, .ref S, rfl, S, _, 2, .int (c + 1), rfl, rfl, lst_of upd_same, rfl, _, _, rfl, rfl, .inl ⟨by decide, by decide⟩, _, _, rfl, rfl, .inl ⟨_, rfl, _, _, rfl, rfl, (by show (0 : Int) < 2305843009213693951; decide), _, _, rfl, rfl, .inr ⟨by decide, by decide⟩, _, rfl, _, _, rfl, rfl, ?_⟩⟩
      refine ⟨_, rfl, _, _, rfl, rfl, ⟨by decide, by decide +kernel⟩, .inl ⟨_, rfl, .int t, rfl, _, _, rfl, rfl, t0, ?_⟩⟩
      exact k _ _ (rs_put r0) (md _).1 (md _).2
theorem cl__law_drawn (T : Txt K mg) : Cl P w K mg base 1 "_law_drawn" spDrawn := by
  obtain ⟨f, fd, F, hm, hb⟩ := T.f__law_drawn
  exact cl_of (ok__law_drawn F T) hm F.kp hb
def spLiked (K : PySem.W.Frag) : Sp := fun vs H Q _ => ∃ (S l : Addr) (xs : List V), vs = [.ref S, .ref l] ∧ Sk H (some S) ∧ S ≠ l ∧ SqL K H l xs ∧ xs ≠ [] ∧ xs.length ≤ 100000 ∧ ∀ H' (j : Nat) v, Rs (some S) H H' → xs[j]? = some v → Q v H'
theorem ok__law_liked {f : Addr} {fd : FuncData} (F : Fun K "_law_liked" "_law_liked" st__law_liked f fd) (T : Txt K mg) : FnOk P w K mg base CX0 2 f fd ["sack", "items"] (spLiked K) := by
  have c__law_drawn : Cl P w K mg base 1 "_law_drawn" spDrawn := cl__law_drawn T
  refine F.ok sc__law_liked (fun vs H Q E h => ?_) (fun cdv A outer s H vs Q E hr h => ?_)
  · obtain ⟨S, l, xs, rfl, _⟩ := h
    rfl
  · obtain ⟨S, l, xs, rfl, hS, hn, hl, he, hz, k⟩ := h
    have hp : 0 < xs.length := List.length_pos_iff.mpr he
    refine ⟨_, (pss_one (ps_ret (pe_ix (kix_list (K := K)) (pv 1) (pe_f c__law_drawn hr (by decide) rfl (pa_cons (pv 0) (pa_cons (pe_callB (kcall_len (K := K)) (by rfl) T.n_len bo_len (pa_cons (pv 1) pa_nil)) pa_nil))) (fun _ _ => rfl)))), ?_⟩
    refine ⟨.ref l, rfl, .ref S, rfl, .ref l, rfl, l, xs, rfl, .inl hl, S, _, rfl, hS, by omega, by omega, fun H1 r r1 a0 a1 => ?_⟩
    have hl1 : SqL K H1 l xs := r1.lst (fun q => hn (Option.some.inj q)) hl
    obtain ⟨j, rfl⟩ : ∃ j : Nat, r = (j : Int) := ⟨r.toNat, by omega⟩
    have hj : j < xs.length := by omega
    exact ⟨l, xs, _, _, rfl, rfl, hl1, atI_nat (List.getElem?_eq_getElem hj), k _ j _ r1 (List.getElem?_eq_getElem hj)⟩
theorem cl__law_liked (T : Txt K mg) : Cl P w K mg base 2 "_law_liked" (spLiked K) := by
  obtain ⟨f, fd, F, hm, hb⟩ := T.f__law_liked
  exact cl_of (ok__law_liked F T) hm F.kp hb
def spLBare (K : PySem.W.Frag) : Sp := fun vs H Q _ => ∃ (a : Addr) (ns : List Int), vs = [.ref a] ∧ SqA K H a (ns.map V.int) ∧ ns.length ≤ 20000 ∧ ∀ H' p, Same H H' → SqT K H' p ((Fr.red ns).map V.int) → Q (.ref p) H'
theorem ok__law_bare {f : Addr} {fd : FuncData} (F : Fun K "_law_bare" "_law_bare" st__law_bare f fd) (T : Txt K mg) : FnOk P w K mg base CX0 1 f fd ["row"] (spLBare K) := by
  refine F.ok sc__law_bare (fun vs H Q E h => ?_) (fun cdv A outer s H vs Q E hr h => ?_)
  · obtain ⟨a, ns, rfl, _⟩ := h
    rfl
  · obtain ⟨a, ns, rfl, h, hz, k⟩ := h
    let Pv : Addr → Nat → L2.St → Hp → Prop := fun l i σ H' => H l = none ∧ Same H H' ∧ H' l = some (.lst (kp ns i)) ∧ ∃ x, σ = [some (.ref a), some (.ref l), x]
    have zl : ∀ {j : Nat}, j ≤ ns.length → j < sizeLine := fun hj => Nat.lt_of_le_of_lt (Nat.le_trans hj hz) (by decide)
    have last : ∀ (l : Addr) (σ : L2.St) (H' : Hp), Pv l (ns.map V.int).length σ H' → (tRet (tCB (rTupOf K) (tCons (tVar 1) tNil))) { nx := fun _ H' => Q .non H', rt := Q } σ H' := fun l σ H' ⟨hl, s1, d1, x, es⟩ => by
      subst es
      refine ⟨.ref l, rfl, l, _, rfl, .inl ⟨lst_of d1, fun q hq => k _ _ (Same.trans s1 (new_same hq)) (tup_of ?_)⟩⟩
      rw [upd_same, List.length_map, kp_end]
    rcases h with h | h
    · refine ⟨_, (pss_cons (ps_set (i := 1) sc__law_bare.nd rfl (Or.inl rfl) (pe_lst pa_nil)) (pss_cons (ps_for PassesOwn.never rfl (kpi_list (K := K) (pv 0)) (pg_name (i := 2) sc__law_bare.nd rfl (Or.inl rfl)) (pss_one (ps_if (PW.pt (pw_and (pt_cmpR (kop_neD (K := K) hr.units) (pv 1) (pe_lst pa_nil) (nomark _)) (pw_and1 (pt_cmpR op_eq (pe_ix (kix_list (K := K)) (pv 1) (pe_un un_neg pe_int) (fun _ _ => rfl)) (pe_op op_sub pe_int (pv 2)) (nomark _))))) (pss_one (ps_expr (pe_bm0 PySem.F.plainAttrs_list PySem.F.slot_list_pop PySem.F.type_list_pop mt_pop (pv 1)))) (pss_one (ps_expr (pe_bm PySem.F.plainAttrs_list PySem.F.slot_list_append PySem.F.type_list_append mt_append (pv 1) (pa_cons (pv 2) pa_nil))))))) (pss_one (ps_ret (pe_callTy (kcall_tuple (K := K)) (by rfl) T.n_tuple bo_tuple (pa_cons (pv 1) pa_nil)))))), ?_⟩
      refine ⟨Nat.zero_le _, fun l hl => ⟨.ref a, rfl, a, rfl, ⟨_, (Rs.same (S := none) True.intro (new_same hl)).lst (fun q => nomatch q) h⟩, for_list (K := K) (a := a) (xs := ns.map V.int) (Pv l) ⟨hl, new_same hl, upd_same, none, rfl⟩ (fun i σ H' _ p => (Rs.same (S := none) True.intro p.2.1).lst (fun q => nomatch q) h) (fun i x σ H' hx p => ?_) fun σ H' p => last l σ H' p⟩⟩
      obtain ⟨_, s1, d1, y, rfl⟩ := p
      obtain ⟨e, he, rfl⟩ := get_int hx
      have at1 := act_take he
      have hlt : (kp ns i).length < sizeLine := zl (kp_len ns i)
      refine ⟨.ref l, rfl, Nat.zero_le _, fun z hz0 => ?_⟩
      have nz : l ≠ z := fun q => by rw [q, hz0] at d1; cases d1
      have s2 := Same.trans s1 (new_same (o := .lst []) hz0)
      have d2 : upd H' z (.lst []) l = some (.lst (kp ns i)) := by rw [upd_ne nz]; exact d1
      have ez : upd H' z (.lst []) z = some (.lst (([] : List Int).map V.int)) := upd_same
      generalize upd H' z (.lst []) = H2 at s2 d2 ez
      refine ne_list (lst_of d2) (lst_of ez) ⟨_, rfl, ?_⟩
      cases q : Fr.act (ns.take i) [] with
      | nil =>
        have ek : kp ns i = [] := by unfold kp; rw [q]; rfl
        have ek1 : kp ns (i + 1) = [.int e] := by unfold kp; rw [at1, q]; rfl
        refine ⟨.ref l, rfl, .inl ⟨rfl, _, SqL.of d2⟩, .int e, rfl, l, _, _, rfl, rfl, d2, hlt, hl, same_mut s2 hl, ?_, some (.int e), rfl⟩
        rw [upd_same, ek, ek1]
        rfl
      | cons y1 t =>
        have ek : kp ns i = (t.reverse.map V.int) ++ [.int y1] := by unfold kp; rw [q, List.reverse_cons, List.map_append]; rfl
        have en : (!decide ((y1 :: t).reverse = [])) = true := by simp
        show if (!decide ((y1 :: t).reverse = [])) = true then _ else _
        rw [if_pos en]
        refine ⟨.ref l, rfl, 1, rfl, l, _, _, .int y1, rfl, rfl, lst_of d2, by rw [ek]; exact atI_last _ _, .int e, rfl, _, _, rfl, rfl, rfl, _, rfl, ?_⟩
        refine ite2 (fun h1 => ?_) fun h1 => ?_
        · have h1 : y1 = -e := by have := V.int.inj (of_decide_eq_true h1); omega
          have ek1 : kp ns (i + 1) = t.reverse.map V.int := by unfold kp; rw [at1, q, Fr.push_eq h1]
          refine ⟨.ref l, rfl, .inl ⟨rfl, _, SqL.of d2⟩, l, _, .int y1, rfl, rfl, d2, by rw [ek]; simp, hl, same_mut s2 hl, ?_, some (.int e), rfl⟩
          rw [upd_same, ek, ek1, List.dropLast_concat]
        · have h1 : ¬ y1 = -e := fun z => h1 (decide_eq_true (congrArg V.int (by omega)))
          have ek1 : kp ns (i + 1) = kp ns i ++ [.int e] := by unfold kp; rw [at1, q, Fr.push_on h1, List.reverse_cons, List.map_append]; rfl
          refine ⟨.ref l, rfl, .inl ⟨rfl, _, SqL.of d2⟩, .int e, rfl, l, _, _, rfl, rfl, d2, hlt, hl, same_mut s2 hl, ?_, some (.int e), rfl⟩
          rw [upd_same, ek1]
    · refine ⟨_, (pss_cons (ps_set (i := 1) sc__law_bare.nd rfl (Or.inl rfl) (pe_lst pa_nil)) (pss_cons (ps_for PassesOwn.never rfl (kpi_tup (K := K) (pv 0)) (pg_name (i := 2) sc__law_bare.nd rfl (Or.inl rfl)) (pss_one (ps_if (PW.pt (pw_and (pt_cmpR (kop_neD (K := K) hr.units) (pv 1) (pe_lst pa_nil) (nomark _)) (pw_and1 (pt_cmpR op_eq (pe_ix (kix_list (K := K)) (pv 1) (pe_un un_neg pe_int) (fun _ _ => rfl)) (pe_op op_sub pe_int (pv 2)) (nomark _))))) (pss_one (ps_expr (pe_bm0 PySem.F.plainAttrs_list PySem.F.slot_list_pop PySem.F.type_list_pop mt_pop (pv 1)))) (pss_one (ps_expr (pe_bm PySem.F.plainAttrs_list PySem.F.slot_list_append PySem.F.type_list_append mt_append (pv 1) (pa_cons (pv 2) pa_nil))))))) (pss_one (ps_ret (pe_callTy (kcall_tuple (K := K)) (by rfl) T.n_tuple bo_tuple (pa_cons (pv 1) pa_nil)))))), ?_⟩
      refine ⟨Nat.zero_le _, fun l hl => ⟨.ref a, rfl, a, rfl, ⟨_, same_tup (new_same hl) h⟩, for_tup (K := K) (a := a) (xs := ns.map V.int) (Pv l) ⟨hl, new_same hl, upd_same, none, rfl⟩ (fun i σ H' _ p => same_tup p.2.1 h) (fun i x σ H' hx p => ?_) fun σ H' p => last l σ H' p⟩⟩
      obtain ⟨_, s1, d1, y, rfl⟩ := p
      obtain ⟨e, he, rfl⟩ := get_int hx
      have at1 := act_take he
      have hlt : (kp ns i).length < sizeLine := zl (kp_len ns i)
      refine ⟨.ref l, rfl, Nat.zero_le _, fun z hz0 => ?_⟩
      have nz : l ≠ z := fun q => by rw [q, hz0] at d1; cases d1
      have s2 := Same.trans s1 (new_same (o := .lst []) hz0)
      have d2 : upd H' z (.lst []) l = some (.lst (kp ns i)) := by rw [upd_ne nz]; exact d1
      have ez : upd H' z (.lst []) z = some (.lst (([] : List Int).map V.int)) := upd_same
      generalize upd H' z (.lst []) = H2 at s2 d2 ez
      refine ne_list (lst_of d2) (lst_of ez) ⟨_, rfl, ?_⟩
      cases q : Fr.act (ns.take i) [] with
      | nil =>
        have ek : kp ns i = [] := by unfold kp; rw [q]; rfl
        have ek1 : kp ns (i + 1) = [.int e] := by unfold kp; rw [at1, q]; rfl
        refine ⟨.ref l, rfl, .inl ⟨rfl, _, SqL.of d2⟩, .int e, rfl, l, _, _, rfl, rfl, d2, hlt, hl, same_mut s2 hl, ?_, some (.int e), rfl⟩
        rw [upd_same, ek, ek1]
        rfl
      | cons y1 t =>
        have ek : kp ns i = (t.reverse.map V.int) ++ [.int y1] := by unfold kp; rw [q, List.reverse_cons, List.map_append]; rfl
        have en : (!decide ((y1 :: t).reverse = [])) = true := by simp
        show if (!decide ((y1 :: t).reverse = [])) = true then _ else _
        rw [if_pos en]
        refine ⟨.ref l, rfl, 1, rfl, l, _, _, .int y1, rfl, rfl, lst_of d2, by rw [ek]; exact atI_last _ _, .int e, rfl, _, _, rfl, rfl, rfl, _, rfl, ?_⟩
        refine ite2 (fun h1 => ?_) fun h1 => ?_
        · have h1 : y1 = -e := by have := V.int.inj (of_decide_eq_true h1); omega
          have ek1 : kp ns (i + 1) = t.reverse.map V.int := by unfold kp; rw [at1, q, Fr.push_eq h1]
          refine ⟨.ref l, rfl, .inl ⟨rfl, _, SqL.of d2⟩, l, _, .int y1, rfl, rfl, d2, by rw [ek]; simp, hl, same_mut s2 hl, ?_, some (.int e), rfl⟩
          rw [upd_same, ek, ek1, List.dropLast_concat]
        · have h1 : ¬ y1 = -e := fun z => h1 (decide_eq_true (congrArg V.int (by omega)))
          have ek1 : kp ns (i + 1) = kp ns i ++ [.int e] := by unfold kp; rw [at1, q, Fr.push_on h1, List.reverse_cons, List.map_append]; rfl
          refine ⟨.ref l, rfl, .inl ⟨rfl, _, SqL.of d2⟩, .int e, rfl, l, _, _, rfl, rfl, d2, hlt, hl, same_mut s2 hl, ?_, some (.int e), rfl⟩
          rw [upd_same, ek1]
theorem cl__law_bare (T : Txt K mg) : Cl P w K mg base 1 "_law_bare" (spLBare K) := by
  obtain ⟨f, fd, F, hm, hb⟩ := T.f__law_bare
  exact cl_of (ok__law_bare F T) hm F.kp hb
theorem ok__law_back {f : Addr} {fd : FuncData} (F : Fun K "_law_back" "_law_back" st__law_back f fd) (T : Txt K mg) : FnOk P w K mg base CX0 1 f fd ["word"] (spOpp K) := by
  refine F.ok sc__law_back (fun vs H Q E h => ?_) (fun cdv A outer s H vs Q E hr h => ?_)
  · obtain ⟨a, ns, rfl, _⟩ := h
    rfl
  · obtain ⟨a, ns, rfl, h, hz, k⟩ := h
    refine ⟨_, (pss_one (ps_ret (pe_callTy (kcall_tuple (K := K)) (by rfl) T.n_tuple bo_tuple (pa_cons (pe_lc (own := [("entry", 1)]) rfl sc__law_back.nd (kpi_tup (K := K) (kpe_revT (K := K) (pv 0))) (blkOk_by (N := nm__law_back) (sc := defScope st__law_back) (by decide +kernel)) (fun _ _ _ _ _ => (pg_name (i := 1) sc__law_back.nd rfl (by first | exact Or.inl rfl | exact Or.inr rfl))) (fun _ _ _ _ _ => pts_nil) (fun _ _ _ _ _ => (pe_op op_sub pe_int (pv 1)))) pa_nil)))), ?_⟩
    refine ⟨.ref a, rfl, a, _, rfl, h, fun p hp => ⟨p, rfl, ⟨_, tup_of upd_same⟩, fun D hD => lc_tup (K := K) (a := p) (xs := (ns.map V.int).reverse) (fun i H' => Same (upd H p (.tup (ns.map V.int).reverse)) H' ∧ H' D = some (.lst (((ns.reverse.take i).map fun x => -x).map V.int))) ⟨new_same hD, upd_same⟩ (fun i H' _ q => same_tup q.1 (tup_of upd_same)) (fun i x H' hx q => ?_) fun H' q => ?_⟩⟩
    · rw [← List.map_reverse] at hx
      have hi : i < ns.length := by
        have := (List.getElem?_eq_some_iff.mp hx).1
        rw [List.length_map, List.length_reverse] at this
        exact this
      rw [List.getElem?_map] at hx
      cases z : ns.reverse[i]? with
      | none => rw [z] at hx; cases hx
      | some e =>
        rw [z] at hx
        cases hx
        refine ⟨rfl, .int e, rfl, _, _, rfl, rfl, _, q.2, Nat.lt_of_le_of_lt (Nat.le_trans (by rw [List.length_map, List.length_map, List.length_take]; omega) hz) (by decide), same_mut q.1 hD, ?_⟩
        rw [upd_same, opp_take ns i e z, List.map_append]
        show some (HO.lst (_ ++ [V.int (0 - e)])) = some (HO.lst (_ ++ [V.int (-e)]))
        rw [Int.zero_sub]
    · refine ⟨D, _, rfl, .inl ⟨lst_of q.2, fun l hl => k _ _ (Same.trans (Same.trans (new_same hp) q.1) (new_same hl)) (tup_of ?_)⟩⟩
      rw [upd_same, List.length_reverse, List.length_map, opp_all]
theorem cl__law_back (T : Txt K mg) : Cl P w K mg base 1 "_law_back" (spOpp K) := by
  obtain ⟨f, fd, F, hm, hb⟩ := T.f__law_back
  exact cl_of (ok__law_back F T) hm F.kp hb
def spWord (K : PySem.W.Frag) : Sp := fun vs H Q _ => ∃ (S : Addr) (n m : Int), vs = [.ref S, .int n, .int m] ∧ Sk H (some S) ∧ 1 ≤ n ∧ n ≤ 5 ∧ 0 ≤ m ∧ m ≤ 1000 ∧ ∀ H' p ns, Rs (some S) H H' → SqT K H' p (ns.map V.int) → Wd n ns → (ns.length : Int) ≤ m → Q (.ref p) H'
theorem letter_of {n r s : Int} (n5 : n ≤ 5) (a0 : 0 ≤ r) (a1 : r < n) (b0 : 0 ≤ s) (b1 : s < 2) : (1 + r) * (1 - 2 * s) ≠ 0 ∧ -n ≤ (1 + r) * (1 - 2 * s) ∧ (1 + r) * (1 - 2 * s) ≤ n := by
  have : s = 0 ∨ s = 1 := by omega
  rcases this with h | h <;> subst h <;> omega
theorem sk_upd {H : Hp} {S l : Addr} {o : HO} (h : Sk H (some S)) (n : S ≠ l) : Sk (upd H l o) (some S) := by
  obtain ⟨a, b, c, e⟩ := h
  exact ⟨a, b, c, by rw [upd_ne n]; exact e⟩
theorem rs_new {H : Hp} {S l : Addr} {o : HO} (h : Sk H (some S)) (hl : H l = none) : Rs (some S) H (upd H l o) := .same h (new_same hl)
theorem sk_ne {H : Hp} {S l : Addr} (h : Sk H (some S)) (hl : H l = none) : S ≠ l := fun q => by
  subst q
  obtain ⟨a, b, c, e⟩ := h
  rw [hl] at e
  cases e
/-- a list that was not there changes -/
theorem rs_mut {H H1 : Hp} {S l : Addr} {o : HO} (r : Rs (some S) H H1) (hl : H l = none) : Rs (some S) H (upd H1 l o) := ⟨r.s0, sk_upd r.s1 (sk_ne r.s0 hl), fun a u n e => by
  rw [upd_ne (ne_of_none e hl)]
  exact r.keep a u n e⟩
theorem ok__law_word {f : Addr} {fd : FuncData} (F : Fun K "_law_word" "_law_word" st__law_word f fd) (T : Txt K mg) : FnOk P w K mg base CX0 2 f fd ["sack", "letters", "most"] (spWord K) := by
  have c__law_drawn : Cl P w K mg base 1 "_law_drawn" spDrawn := cl__law_drawn T
  have c__law_bare : Cl P w K mg base 1 "_law_bare" (spLBare K) := cl__law_bare T
  refine F.ok sc__law_word (fun vs H Q E h => ?_) (fun cdv A outer s H vs Q E hr h => ?_)
  · obtain ⟨S, n, m, rfl, _⟩ := h
    rfl
  · obtain ⟨S, n, m, rfl, hS, n1, n5, m0, m1, k⟩ := h
    refine ⟨_, (pss_cons (ps_set (i := 3) sc__law_word.nd rfl (Or.inl rfl) (pe_lst pa_nil)) (pss_cons (ps_for PassesOwn.never rfl (pi_range1 rfl T.n_range (pa_cons (pe_f c__law_drawn hr (by decide) rfl (pa_cons (pv 0) (pa_cons (pe_op op_add (pv 2) pe_int) pa_nil))) pa_nil)) (pg_name (i := 4) sc__law_word.nd rfl (Or.inl rfl)) (pss_one (ps_expr (pe_bm PySem.F.plainAttrs_list PySem.F.slot_list_append PySem.F.type_list_append mt_append (pv 3) (pa_cons (pe_op op_mul (pe_op op_add pe_int (pe_f c__law_drawn hr (by decide) rfl (pa_cons (pv 0) (pa_cons (pv 1) pa_nil)))) (pe_op op_sub pe_int (pe_op op_mul pe_int (pe_f c__law_drawn hr (by decide) rfl (pa_cons (pv 0) (pa_cons pe_int pa_nil)))))) pa_nil))))) (pss_one (ps_ret (pe_f c__law_bare hr (by decide) rfl (pa_cons (pv 3) pa_nil)))))), ?_⟩
    refine ⟨Nat.zero_le _, fun l hl => ?_⟩
    have nSl := sk_ne hS hl
    refine ⟨.ref S, rfl, .int m, rfl, _, _, rfl, rfl, S, _, rfl, sk_upd hS nSl, by omega, by omega, fun H1 r r1 a0 a1 => ?_⟩
    have d1 : H1 l = some (.lst []) := r1.keep _ _ (fun q => nSl (Option.some.inj q)) upd_same
    have s1 : Rs (some S) H H1 := (rs_new hS hl).tr r1
    refine ⟨r, rfl, by omega, by omega, for_range (lo := 0) (n := r.toNat) (fun i σ H' => Rs (some S) H H' ∧ ∃ es, H' l = some (.lst (es.map V.int)) ∧ es.length = i ∧ Lt n es ∧ ∃ x, σ = [some (.ref S), some (.int n), some (.int m), some (.ref l), x]) ⟨s1, [], d1, rfl, lt_nil, none, rfl⟩ (fun i σ H' hi p => ?_) fun σ H' p => ?_⟩
    · obtain ⟨s2, es, d2, el, lt2, x, rfl⟩ := p
      refine ⟨.ref l, rfl, .inl ⟨rfl, _, SqL.of d2⟩, .ref S, rfl, .int n, rfl, S, _, rfl, s2.s1, by omega, by omega, fun H2 u r2 b0 b1 => ?_⟩
      refine ⟨_, _, rfl, rfl, .ref S, rfl, S, _, rfl, r2.s1, by omega, by omega, fun H3 v r3 c0 c1 => ?_⟩
      have s3 := (s2.tr r2).tr r3
      have d3 : H3 l = some (.lst (es.map V.int)) := (r2.tr r3).keep _ _ (fun q => nSl (Option.some.inj q)) d2
      refine ⟨_, _, rfl, rfl, .inl ⟨by decide, by decide⟩, _, _, rfl, rfl, _, _, rfl, rfl, .inl ⟨by omega, by omega⟩, l, _, _, rfl, rfl, d3, small1000 (by rw [List.length_map]; omega), ?_⟩
      refine ⟨rs_mut s3 hl, es ++ [(1 + u) * (1 - 2 * v)], ?_, by rw [List.length_append, el]; rfl, lt_app lt2 fun i hi => ?_, some (.int (0 + i)), rfl⟩
      · rw [upd_same, List.map_append]
        rfl
      · rw [List.mem_singleton.mp hi]
        exact letter_of n5 b0 b1 c0 c1
    · obtain ⟨s2, es, d2, el, lt2, x, rfl⟩ := p
      refine ⟨.ref l, rfl, l, es, rfl, .inl (lst_of d2), by omega, fun H2 p e2 hp => k _ _ _ (s2.tr (.same s2.s1 e2)) hp (wd_red lt2) ?_⟩
      have := len_red es
      omega
theorem cl__law_word (T : Txt K mg) : Cl P w K mg base 2 "_law_word" (spWord K) := by
  obtain ⟨f, fd, F, hm, hb⟩ := T.f__law_word
  exact cl_of (ok__law_word F T) hm F.kp hb
def spPowered (K : PySem.W.Frag) : Sp := fun vs H Q _ => ∃ (a : Addr) (ns : List Int) (m : Int), vs = [.ref a, .int m] ∧ SqT K H a (ns.map V.int) ∧ ns.length ≤ 200 ∧ -50 ≤ m ∧ m ≤ 50 ∧ ∀ H' p, Same H H' → SqT K H' p ((Fr.red (Fr.pw ns m)).map V.int) → Q (.ref p) H'
theorem ok__law_powered {f : Addr} {fd : FuncData} (F : Fun K "_law_powered" "_law_powered" st__law_powered f fd) (T : Txt K mg) : FnOk P w K mg base CX0 2 f fd ["word", "many"] (spPowered K) := by
  have c__law_back : Cl P w K mg base 1 "_law_back" (spOpp K) := cl__law_back T
  have c__law_bare : Cl P w K mg base 1 "_law_bare" (spLBare K) := cl__law_bare T
  refine F.ok sc__law_powered (fun vs H Q E h => ?_) (fun cdv A outer s H vs Q E hr h => ?_)
  · obtain ⟨a, ns, m, rfl, _⟩ := h
    rfl
  · obtain ⟨a, ns, m, rfl, h, hz, m0, m5, k⟩ := h
    refine ⟨_, (pss_cons (ps_set (i := 2) sc__law_powered.nd rfl (Or.inl rfl) (pe_tup pa_nil)) (pss_cons (ps_for PassesOwn.never rfl (pi_range1 rfl T.n_range (pa_cons (pe_ifExp (pt_cmpR (kop_neD (K := K) hr.units) (pv 0) (pe_tup pa_nil) (nomark _)) (pe_callB call_abs (by rfl) T.n_abs bo_abs (pa_cons (pv 1) pa_nil)) pe_int) pa_nil)) (pg_name (i := 3) sc__law_powered.nd rfl (Or.inl rfl)) (pss_one (ps_set (i := 2) sc__law_powered.nd rfl (Or.inl rfl) (pe_op (kop_catA (K := K)) (pv 2) (pv 0))))) (pss_one (ps_ret (pe_f c__law_bare hr (by decide) rfl (pa_cons (pe_ifExp (pt_cmpR op_ge (pv 1) pe_int (nomark _)) (pv 2) (pe_f c__law_back hr (by decide) rfl (pa_cons (pv 2) pa_nil))) pa_nil)))))), ?_⟩
    refine ⟨Nat.zero_le _, fun p hp => ⟨.ref a, rfl, Nat.zero_le _, fun z hzn => ne_tup (ms := []) (same_tup (Same.trans (new_same hp) (new_same hzn)) h) (tup_of upd_same) ⟨_, rfl, ?_⟩⟩⟩
    have s0 : Same H (upd (upd H p (.tup [])) z (.tup [])) := Same.trans (new_same hp) (new_same hzn)
    have t0 : SqT K (upd (upd H p (.tup [])) z (.tup [])) p (([] : List Int).map V.int) := same_tup (new_same hzn) (tup_of upd_same)
    generalize upd (upd H p (.tup [])) z (.tup []) = H1 at s0 t0
    let Pv : Nat → L2.St → Hp → Prop := fun i σ H' => Same H H' ∧ ∃ (q : Addr) (x : Option V), SqT K H' q ((Fr.rep ns i).map V.int) ∧ σ = [some (.ref a), some (.int m), some (.ref q), x]
    have nb : ∀ j : Nat, j ≤ 50 → j * ns.length ≤ 10000 := fun j hj => Nat.le_trans (Nat.mul_le_mul hj hz) (by decide)
    have step : ∀ (i N : Nat) (σ : L2.St) (H' : Hp) (R : L2.St → Hp → Prop), i < N → N ≤ 50 → Pv i σ H' → (∀ σ' H', Pv (i + 1) σ' H' → R σ' H') → ∀ y : V, (tAsg (tOp (rCatA K) (tVar 2) (tVar 0)) (gName 2)) { nx := R, rt := Q } (σ.set 3 (some y)) H' := fun i N σ H' R hi hN p hR y => by
      obtain ⟨s1, q, x, hq, rfl⟩ := p
      refine ⟨.ref q, rfl, .ref a, rfl, cat_ints hq (same_tup s1 h) (by rw [Fr.rep_len]; have := nb i (by omega); omega) fun H2 q2 e2 h2 => hR _ _ ⟨Same.trans s1 e2, q2, _, h2, rfl⟩⟩
    have fin : ∀ (j : Nat) (σ : L2.St) (H' : Hp), (if m < 0 then -m else m) = (j : Int) ∨ ns = [] → j ≤ 50 → Pv j σ H' → (tRet (tFn (spLBare K) (tCons (tIf (tTest (tOp (rI0 fun i j => V.bl (decide (j ≤ i))) (tVar 1) (tC (.int 0)))) (tVar 2) (tFn (spOpp K) (tCons (tVar 2) tNil))) tNil))) { nx := fun _ H' => Q .non H', rt := Q } σ H' := fun j σ H' hj hj5 p => by
      obtain ⟨s1, q, x, hq, rfl⟩ := p
      have hl : (Fr.rep ns j).length ≤ 20000 := by rw [Fr.rep_len]; have := nb j hj5; omega
      refine ⟨.int m, rfl, _, _, rfl, rfl, _, rfl, ite2 (fun h1 => ?_) fun h1 => ?_⟩
      · have h1 : 0 ≤ m := of_decide_eq_true h1
        refine ⟨.ref q, rfl, q, _, rfl, .inr hq, hl, fun H2 p e2 hp => k _ _ (Same.trans s1 e2) ?_⟩
        have e : Fr.pw ns m = Fr.rep ns j := by
          unfold Fr.pw
          rw [if_neg (by omega)]
          rcases hj with hj | hj
          · rw [if_neg (by omega)] at hj
            rw [hj, Int.toNat_natCast]
          · rw [hj, Fr.rep_nil, Fr.rep_nil]
        rw [e]
        exact hp
      · have h1 : ¬ 0 ≤ m := fun z => h1 (decide_eq_true z)
        refine ⟨.ref q, rfl, q, _, rfl, hq, hl, fun H3 u e3 hu => ⟨u, _, rfl, .inr hu, by rw [Fr.opp_len]; exact hl, fun H2 p e2 hp => k _ _ (Same.trans (Same.trans s1 e3) e2) ?_⟩⟩
        have e : Fr.pw ns m = Fr.opp (Fr.rep ns j) := by
          unfold Fr.pw
          rw [if_pos (by omega), Fr.opp_rep]
          rcases hj with hj | hj
          · rw [if_pos (by omega)] at hj
            rw [hj, Int.toNat_natCast]
          · subst hj
            rw [show Fr.opp [] = [] from rfl, Fr.rep_nil, Fr.rep_nil]
        rw [e]
        exact hp
    by_cases hn : ns = []
    · rw [show (!decide (ns = [])) = false by rw [hn]; rfl]
      refine ⟨0, rfl, by decide, by decide, for_range (lo := 0) (n := (0 : Int).toNat) Pv ⟨s0, p, none, t0, rfl⟩ (fun i σ H' hi => absurd hi (Nat.not_lt_zero _)) fun σ H' q => fin 0 σ H' (.inr hn) (by decide) q⟩
    · rw [show (!decide (ns = [])) = true by rw [decide_eq_false hn]; rfl]
      refine ⟨.int m, rfl, m, rfl, _, rfl, by split <;> omega, by split <;> omega, for_range (lo := 0) Pv ⟨s0, p, none, t0, rfl⟩ (fun i σ H' hi q => step i _ σ H' _ hi (by split <;> omega) q (fun _ _ z => z) _) fun σ H' q => fin _ σ H' (.inl (by rw [Int.toNat_of_nonneg (by split <;> omega)])) (by split <;> omega) q⟩
theorem cl__law_powered (T : Txt K mg) : Cl P w K mg base 2 "_law_powered" (spPowered K) := by
  obtain ⟨f, fd, F, hm, hb⟩ := T.f__law_powered
  exact cl_of (ok__law_powered F T) hm F.kp hb
def spRowL (K : PySem.W.Frag) : Sp := fun vs H Q _ => ∃ (S : Addr) (n m : Int), vs = [.ref S, .int n, .int m] ∧ Sk H (some S) ∧ 1 ≤ n ∧ n ≤ 5 ∧ 0 ≤ m ∧ m ≤ 1000 ∧ ∀ H' p ns, Rs (some S) H H' → SqT K H' p (ns.map V.int) → Lt n ns → (ns.length : Int) = m → Q (.ref p) H'
theorem at_back {ns : List Int} {r : Int} (h0 : 0 ≤ r) (h1 : r < ns.length) : atI (ns.map V.int) (-1 - r) = some (V.int (ns.getD (ns.length - 1 - r.toNat) 0)) := by
  have e : ixN (ns.map V.int).length (-1 - r) = some (ns.length - 1 - r.toNat) := by
    unfold ixN
    rw [if_neg (by omega), List.length_map, if_pos (by omega)]
    congr 1
    omega
  unfold atI
  rw [e]
  show (ns.map V.int)[ns.length - 1 - r.toNat]? = _
  rw [List.getElem?_map, getD_of (by omega)]
  rfl
theorem ok__law_row {f : Addr} {fd : FuncData} (F : Fun K "_law_row" "_law_row" st__law_row f fd) (T : Txt K mg) : FnOk P w K mg base CX0 2 f fd ["sack", "letters", "many"] (spRowL K) := by
  have c__law_drawn : Cl P w K mg base 1 "_law_drawn" spDrawn := cl__law_drawn T
  refine F.ok sc__law_row (fun vs H Q E h => ?_) (fun cdv A outer s H vs Q E hr h => ?_)
  · obtain ⟨S, n, m, rfl, _⟩ := h
    rfl
  · obtain ⟨S, n, m, rfl, hS, n1, n5, m0, m1, k⟩ := h
    refine ⟨_, (pss_cons (ps_set (i := 3) sc__law_row.nd rfl (Or.inl rfl) (pe_lst pa_nil)) (pss_cons (ps_for PassesOwn.never rfl (pi_range1 rfl T.n_range (pa_cons (pv 2) pa_nil)) (pg_name (i := 4) sc__law_row.nd rfl (Or.inl rfl)) (pss_one (ps_if (PW.pt (pw_and (pt_cmpR (kop_neD (K := K) hr.units) (pv 3) (pe_lst pa_nil) (nomark _)) (pw_and1 (pt_cmpR op_eq (pe_f c__law_drawn hr (by decide) rfl (pa_cons (pv 0) (pa_cons pe_int pa_nil))) pe_int (nomark _))))) (pss_one (ps_expr (pe_bm PySem.F.plainAttrs_list PySem.F.slot_list_append PySem.F.type_list_append mt_append (pv 3) (pa_cons (pe_op op_sub pe_int (pe_ix (kix_list (K := K)) (pv 3) (pe_op op_sub (pe_un un_neg pe_int) (pe_f c__law_drawn hr (by decide) rfl (pa_cons (pv 0) (pa_cons (pe_callB (call_min2 rfl) (by rfl) T.n_min bo_min (pa_cons pe_int (pa_cons (pe_callB (kcall_len (K := K)) (by rfl) T.n_len bo_len (pa_cons (pv 3) pa_nil)) pa_nil))) pa_nil)))) (fun _ _ => rfl))) pa_nil)))) (pss_one (ps_expr (pe_bm PySem.F.plainAttrs_list PySem.F.slot_list_append PySem.F.type_list_append mt_append (pv 3) (pa_cons (pe_op op_mul (pe_op op_add pe_int (pe_f c__law_drawn hr (by decide) rfl (pa_cons (pv 0) (pa_cons (pv 1) pa_nil)))) (pe_op op_sub pe_int (pe_op op_mul pe_int (pe_f c__law_drawn hr (by decide) rfl (pa_cons (pv 0) (pa_cons pe_int pa_nil)))))) pa_nil))))))) (pss_one (ps_ret (pe_callTy (kcall_tuple (K := K)) (by rfl) T.n_tuple bo_tuple (pa_cons (pv 3) pa_nil)))))), ?_⟩
    refine ⟨Nat.zero_le _, fun l hl => ?_⟩
    have nSl := sk_ne hS hl
    have keepL : ∀ {Ha Hb : Hp} {o : HO}, Rs (some S) Ha Hb → Ha l = some o → Hb l = some o := fun r e => r.keep _ _ (fun q => nSl (Option.some.inj q)) e
    refine ⟨.int m, rfl, m, rfl, by omega, by omega, for_range (lo := 0) (n := m.toNat) (fun i σ H' => Rs (some S) H H' ∧ ∃ es, H' l = some (.lst (es.map V.int)) ∧ es.length = i ∧ Lt n es ∧ ∃ x, σ = [some (.ref S), some (.int n), some (.int m), some (.ref l), x]) ⟨rs_new hS hl, [], upd_same, rfl, lt_nil, none, rfl⟩ (fun i σ H' hi p => ?_) fun σ H' p => ?_⟩
    · obtain ⟨s2, es, d2, el, lt2, x, rfl⟩ := p
      have fin : ∀ (H3 : Hp) (e : Int), Rs (some S) H H3 → H3 l = some (.lst (es.map V.int)) → (e ≠ 0 ∧ -n ≤ e ∧ e ≤ n) → (Rs (some S) H (upd H3 l (.lst (es.map V.int ++ [.int e]))) ∧ ∃ es2, upd H3 l (.lst (es.map V.int ++ [.int e])) l = some (.lst (es2.map V.int)) ∧ es2.length = i + 1 ∧ Lt n es2 ∧ ∃ x, [some (V.ref S), some (.int n), some (.int m), some (.ref l), some (.int (0 + (i : Int)))] = [some (.ref S), some (.int n), some (.int m), some (.ref l), x]) := fun H3 e s3 d3 he => by
        refine ⟨rs_mut s3 hl, es ++ [e], ?_, by rw [List.length_append, el]; rfl, lt_app lt2 fun i hi => ?_, _, rfl⟩
        · rw [upd_same, List.map_append]
          rfl
        · rw [List.mem_singleton.mp hi]
          exact he
      have sm : (es.map V.int).length < sizeLine := small1000 (by rw [List.length_map]; omega)
      refine ⟨.ref l, rfl, Nat.zero_le _, fun z hz0 => ?_⟩
      have nz : l ≠ z := fun q => by rw [q, hz0] at d2; cases d2
      have s3 : Rs (some S) H (upd H' z (.lst [])) := s2.tr (.same s2.s1 (new_same hz0))
      have d3 : upd H' z (.lst []) l = some (.lst (es.map V.int)) := by rw [upd_ne nz]; exact d2
      have ez : upd H' z (.lst []) z = some (.lst (([] : List Int).map V.int)) := upd_same
      generalize upd H' z (.lst []) = H2 at s3 d3 ez
      refine ne_list (lst_of d3) (lst_of ez) ⟨_, rfl, ?_⟩
      by_cases hn : es = []
      · rw [show (!decide (es = [])) = false by rw [hn]; rfl]
        refine ⟨.ref l, rfl, .inl ⟨rfl, _, SqL.of d3⟩, .ref S, rfl, .int n, rfl, S, _, rfl, s3.s1, by omega, by omega, fun H5 u r5 b0 b1 => ⟨_, _, rfl, rfl, .ref S, rfl, S, _, rfl, r5.s1, by omega, by omega, fun H6 v r6 c0 c1 => ?_⟩⟩
        exact ⟨_, _, rfl, rfl, .inl ⟨by decide, by decide⟩, _, _, rfl, rfl, _, _, rfl, rfl, .inl ⟨by omega, by omega⟩, l, _, _, rfl, rfl, keepL (r5.tr r6) d3, sm, fin _ _ ((s3.tr r5).tr r6) (keepL (r5.tr r6) d3) (letter_of n5 b0 b1 c0 c1)⟩
      · rw [show (!decide (es = [])) = true by rw [decide_eq_false hn]; rfl]
        have hp : 0 < es.length := List.length_pos_iff.mpr hn
        refine ⟨.ref S, rfl, S, _, rfl, s3.s1, by omega, by omega, fun H3 q r3 a0 a1 => ⟨rfl, _, rfl, ?_⟩⟩
        rw [dec_int]
        have s4 := s3.tr r3
        have d4 := keepL r3 d3
        refine ite2 (fun h1 => ?_) fun h1 => ?_
        · have hmin : ∀ y : Int, y = ((es.map V.int).length : Nat) → 0 < (if y < 2 then y else 2) ∧ (if y < 2 then y else 2) ≤ es.length ∧ (if y < 2 then y else 2) ≤ 2 := fun y hy => by
            rw [List.length_map] at hy
            split <;> omega
          have hm3 := hmin _ rfl
          refine ⟨.ref l, rfl, .inl ⟨rfl, _, SqL.of d4⟩, .ref l, rfl, 1, rfl, .ref S, rfl, .ref l, rfl, l, _, rfl, .inl (lst_of d4), _, _, rfl, S, _, rfl, s4.s1, hm3.1, Int.lt_of_le_of_lt hm3.2.2 (by decide), fun H5 u r5 b0 b1 => ?_⟩
          have hu : u < es.length := by omega
          have d5 := keepL r5 d4
          refine ⟨_, _, rfl, rfl, l, _, _, _, rfl, rfl, lst_of d5, at_back b0 hu, _, _, rfl, rfl, l, _, _, rfl, rfl, d5, sm, fin _ _ (s4.tr r5) d5 ?_⟩
          have := lt2 _ (List.mem_of_getElem? (getD_of (ns := es) (j := es.length - 1 - u.toNat) (by omega)))
          omega
        · skip
          refine ⟨.ref l, rfl, .inl ⟨rfl, _, SqL.of d4⟩, .ref S, rfl, .int n, rfl, S, _, rfl, s4.s1, by omega, by omega, fun H5 u r5 b0 b1 => ⟨_, _, rfl, rfl, .ref S, rfl, S, _, rfl, r5.s1, by omega, by omega, fun H6 v r6 c0 c1 => ?_⟩⟩
          exact ⟨_, _, rfl, rfl, .inl ⟨by decide, by decide⟩, _, _, rfl, rfl, _, _, rfl, rfl, .inl ⟨by omega, by omega⟩, l, _, _, rfl, rfl, keepL (r5.tr r6) d4, sm, fin _ _ ((s4.tr r5).tr r6) (keepL (r5.tr r6) d4) (letter_of n5 b0 b1 c0 c1)⟩
    · obtain ⟨s2, es, d2, el, lt2, x, rfl⟩ := p
      exact ⟨.ref l, rfl, l, _, rfl, .inl ⟨lst_of d2, fun q hq => k _ _ es (s2.tr (.same s2.s1 (new_same hq))) (tup_of upd_same) lt2 (by omega)⟩⟩
theorem cl__law_row (T : Txt K mg) : Cl P w K mg base 2 "_law_row" (spRowL K) := by
  obtain ⟨f, fd, F, hm, hb⟩ := T.f__law_row
  exact cl_of (ok__law_row F T) hm F.kp hb
theorem no_part {σ : L2.St} {H : Hp} {Q : Option Int → Hp → Prop} (h : Q none H) : tNoPart σ H Q := h
def spStruck (K : PySem.W.Frag) : Sp := fun vs H Q _ => ∃ (S a : Addr) (ns : List Int), vs = [.ref S, .ref a] ∧ Sk H (some S) ∧ SqT K H a (ns.map V.int) ∧ ns.length ≤ 1000 ∧ ∀ H' p, Rs (some S) H H' → SqT K H' p ((Fr.red ns).map V.int) → Q (.ref p) H'
/-- the places of a pair -/
def prs (cs : List Int) (i : Nat) : List Nat := (List.range i).filter fun j => decide (cs.getD j 0 = 0 - cs.getD (j + 1) 0)
theorem prs_yes {cs : List Int} {i : Nat} (h : cs.getD i 0 = 0 - cs.getD (i + 1) 0) : prs cs (i + 1) = prs cs i ++ [i] := by
  unfold prs
  rw [List.range_succ, List.filter_append, List.filter_cons, if_pos (decide_eq_true h)]
  rfl
theorem prs_no {cs : List Int} {i : Nat} (h : ¬ cs.getD i 0 = 0 - cs.getD (i + 1) 0) : prs cs (i + 1) = prs cs i := by
  unfold prs
  rw [List.range_succ, List.filter_append, List.filter_cons, if_neg (fun q => h (of_decide_eq_true q))]
  show _ ++ [] = _
  rw [List.append_nil]
theorem prs_len (cs : List Int) (i : Nat) : (prs cs i).length ≤ i := by
  unfold prs
  have := List.length_filter_le (fun j => decide (cs.getD j 0 = 0 - cs.getD (j + 1) 0)) (List.range i)
  rw [List.length_range] at this
  exact this
theorem prs_nf {cs : List Int} (h : prs cs (cs.length - 1) = []) : Fr.Nf cs := by
  refine nfB_iff.mp ?_
  unfold nfB
  rw [List.all_eq_true]
  intro j hj
  rw [Bool.not_eq_true']
  refine decide_eq_false fun q => ?_
  have : j ∈ prs cs (cs.length - 1) := List.mem_filter.mpr ⟨hj, decide_eq_true (by omega)⟩
  rw [h] at this
  cases this
theorem cut_pair {cs : List Int} {j : Nat} (hj : j + 1 < cs.length) (h : cs.getD j 0 = 0 - cs.getD (j + 1) 0) : Fr.red (cs.take j ++ cs.drop (j + 2)) = Fr.red cs := by
  have e : cs = cs.take j ++ cs.getD j 0 :: cs.getD (j + 1) 0 :: cs.drop (j + 2) := by
    have e1 : cs.drop j = cs.getD j 0 :: cs.drop (j + 1) := by
      rw [List.drop_eq_getElem_cons (by omega), List.getD_eq_getElem?_getD, List.getElem?_eq_getElem (by omega)]
      rfl
    have e2 : cs.drop (j + 1) = cs.getD (j + 1) 0 :: cs.drop (j + 2) := by
      rw [List.drop_eq_getElem_cons (by omega), List.getD_eq_getElem?_getD, List.getElem?_eq_getElem (by omega)]
      rfl
    rw [← e2, ← e1, List.take_append_drop]
  have := Fr.red_strike (cs.take j) (cs.drop (j + 2)) (cs.getD j 0) (cs.getD (j + 1) 0) (by omega)
  rw [← e] at this
  exact this.symm
theorem ok__law_struck {f : Addr} {fd : FuncData} (F : Fun K "_law_struck" "_law_struck" st__law_struck f fd) (T : Txt K mg) : FnOk P w K mg base CX0 3 f fd ["sack", "row"] (spStruck K) := by
  have c__law_liked : Cl P w K mg base 2 "_law_liked" (spLiked K) := cl__law_liked T
  refine F.ok sc__law_struck (fun vs H Q E h => ?_) (fun cdv A outer s H vs Q E hr h => ?_)
  · obtain ⟨S, a, ns, rfl, _⟩ := h
    rfl
  · obtain ⟨S, a, ns, rfl, hS, h, hz, k⟩ := h
    refine ⟨_, (pss_cons (ps_set (i := 2) sc__law_struck.nd rfl (Or.inr rfl) (pe_callTy (kcall_tuple (K := K)) (by rfl) T.n_tuple bo_tuple (pa_cons (pv 1) pa_nil))) (pss_cons (ps_for PassesOwn.never rfl (pi_range1 rfl T.n_range (pa_cons (pe_callB (kcall_len (K := K)) (by rfl) T.n_len bo_len (pa_cons (pv 1) pa_nil)) pa_nil)) (pg_name (i := 3) sc__law_struck.nd rfl (Or.inl rfl)) (pss_cons (ps_setLc (i := 5) (own := [("at", 4)]) rfl sc__law_struck.nd rfl rfl (sw_true rfl rfl rfl (by decide +kernel)) (pi_range1 rfl T.n_range (pa_cons (pe_op op_sub (pe_callB (kcall_len (K := K)) (by rfl) T.n_len bo_len (pa_cons (pv 2) pa_nil)) pe_int) pa_nil)) (blkOk_by (N := nm__law_struck) (sc := defScope st__law_struck) (by decide +kernel)) (fun _ _ _ _ _ => (pg_name (i := 4) sc__law_struck.nd rfl (by first | exact Or.inl rfl | exact Or.inr rfl))) (fun _ _ _ _ _ => pts_one (pt_cmpR op_eq (pe_ix (kix_tup (K := K)) (pv 2) (pv 4) (fun _ _ => rfl)) (pe_op op_sub pe_int (pe_ix (kix_tup (K := K)) (pv 2) (pe_op op_add (pv 4) pe_int) (fun _ _ => rfl))) (nomark _))) (fun _ _ _ _ _ => (pv 4))) (pss_one (ps_if (pt_cmpR (kop_neD (K := K) hr.units) (pv 5) (pe_lst pa_nil) (nomark _)) (pss_cons (ps_set (i := 4) sc__law_struck.nd rfl (Or.inl rfl) (pe_f c__law_liked hr (by decide) rfl (pa_cons (pv 0) (pa_cons (pv 5) pa_nil)))) (pss_one (ps_set (i := 2) sc__law_struck.nd rfl (Or.inr rfl) (pe_op (kop_catA (K := K)) (pe_slice (ksl_tupA (K := K)) (pv 2) po_none (po_some (pv 4))) (pe_slice (ksl_tupA (K := K)) (pv 2) (po_some (pe_op op_add (pv 4) pe_int)) po_none))))) pss_nil)))) (pss_one (ps_ret (pv 2))))), ?_⟩
    refine ⟨.ref a, rfl, a, _, rfl, .inr ⟨h, .ref a, rfl, a, _, rfl, .inr h, _, rfl, by rw [List.length_map]; omega, by rw [List.length_map]; omega, ?_⟩⟩
    rw [Int.toNat_natCast, List.length_map]
    let Pv : Nat → L2.St → Hp → Prop := fun i σ H' => Rs (some S) H H' ∧ ∃ (p : Addr) (cs : List Int) (x y z : Option V), SqT K H' p (cs.map V.int) ∧ Fr.red cs = Fr.red ns ∧ cs.length ≤ ns.length ∧ (Fr.Nf cs ∨ cs.length + 2 * i ≤ ns.length) ∧ σ = [some (.ref S), some (.ref a), some (.ref p), x, y, z]
    refine for_range (lo := 0) (n := ns.length) Pv ⟨.of hS, a, ns, none, none, none, h, rfl, Nat.le_refl _, .inr (Nat.le_refl _), rfl⟩ (fun i σ H' hi p => ?_) fun σ H' p => ?_
    · obtain ⟨s1, p, cs, x, y, z, hp, er, hl, hc, rfl⟩ := p
      refine ⟨.ref p, rfl, p, _, rfl, .inr hp, _, _, rfl, rfl, _, rfl, by rw [List.length_map]; omega, by rw [List.length_map]; omega, ?_⟩
      have em : ((((cs.map V.int).length : Nat) : Int) - 1).toNat = cs.length - 1 := by rw [List.length_map]; omega
      rw [em]
      refine fun D hD => lc_range (lo := 0) (n := cs.length - 1) (fun j H2 => Same H' H2 ∧ H2 D = some (.lst (((prs cs j).map fun (t : Nat) => (t : Int)).map V.int))) ⟨new_same hD, upd_same⟩ (fun j H2 hj q => ?_) fun H2 q => ?_
      · have hp2 := same_tup q.1 hp
        refine ⟨rfl, .ref p, rfl, .int (0 + j), rfl, p, _, _, _, rfl, rfl, hp2, at_int (j := j) (by omega) (by omega), ?_⟩
        refine ⟨.ref p, rfl, .int (0 + j), rfl, _, _, rfl, rfl, p, _, _, _, rfl, rfl, hp2, at_int (j := j + 1) (by omega) (by omega), _, _, rfl, rfl, rfl, _, rfl, ?_⟩
        rw [dec_int]
        refine ite2 (fun h1 => ?_) fun h1 => ?_
        · have h1 := of_decide_eq_true h1
          refine ⟨.int (0 + j), rfl, _, q.2, small1000 (by rw [List.length_map, List.length_map]; have := prs_len cs j; omega), same_mut q.1 hD, ?_⟩
          rw [upd_same, prs_yes h1, List.map_append, List.map_append, Int.zero_add]
          rfl
        · have h1 : ¬ cs.getD j 0 = 0 - cs.getD (j + 1) 0 := fun z => h1 (decide_eq_true z)
          exact ⟨q.1, by rw [prs_no h1]; exact q.2⟩
      · obtain ⟨s2, d2⟩ := q
        have s3 : Rs (some S) H H2 := s1.tr (.same s1.s1 s2)
        have hp3 := same_tup s2 hp
        refine ⟨.ref D, rfl, Nat.zero_le _, fun z2 hz2 => ?_⟩
        have nz : D ≠ z2 := fun q => by rw [q, hz2] at d2; cases d2
        have s4 := new_same (o := .lst []) hz2
        have d4 : upd H2 z2 (.lst []) D = some (.lst (((prs cs (cs.length - 1)).map fun (t : Nat) => (t : Int)).map V.int)) := by rw [upd_ne nz]; exact d2
        have ez : upd H2 z2 (.lst []) z2 = some (.lst (([] : List Int).map V.int)) := upd_same
        generalize upd H2 z2 (.lst []) = H3 at s4 d4 ez
        have s5 : Rs (some S) H H3 := s3.tr (.same s3.s1 s4)
        have hp4 := same_tup s4 hp3
        refine ne_list (lst_of d4) (lst_of ez) ⟨_, rfl, ?_⟩
        by_cases hn : prs cs (cs.length - 1) = []
        · rw [show (!decide ((prs cs (cs.length - 1)).map (fun (t : Nat) => (t : Int)) = [])) = false by rw [hn]; rfl]
          exact ⟨s5, p, cs, _, _, _, hp4, er, hl, .inl (prs_nf hn), rfl⟩
        · have hn2 : ¬ ((prs cs (cs.length - 1)).map (fun (t : Nat) => (t : Int)) = []) := fun q => hn (List.map_eq_nil_iff.mp q)
          rw [show (!decide ((prs cs (cs.length - 1)).map (fun (t : Nat) => (t : Int)) = [])) = true by rw [decide_eq_false hn2]; rfl]
          have hlen := prs_len cs (cs.length - 1)
          refine ⟨.ref S, rfl, .ref D, rfl, S, D, _, rfl, s5.s1, (fun q => ?_), lst_of d4, fun q => hn2 (List.map_eq_nil_iff.mp q), by rw [List.length_map, List.length_map]; omega, fun H5 j v r5 hv => ?_⟩
          · obtain ⟨u1, u2, u3, e⟩ := s1.s1
            rw [q, hD] at e
            cases e
          · rw [List.getElem?_map, List.getElem?_map] at hv
            cases hq : (prs cs (cs.length - 1))[j]? with
            | none => rw [hq] at hv; cases hv
            | some t =>
              rw [hq] at hv
              cases hv
              obtain ⟨m1, m2⟩ := List.mem_filter.mp (List.mem_of_getElem? hq)
              have m1 := List.mem_range.mp m1
              have m2 := of_decide_eq_true m2
              have hp5 := r5.tup hp4
              have s6 := s5.tr r5
              refine ⟨.ref p, rfl, .int (t : Int), rfl, (t : Int), rfl, sl_ints hp5 fun H6 p1 e6 h6 => ?_⟩
              rw [cutI_to] at h6
              refine ⟨.ref p, rfl, .int (t : Int), rfl, _, _, rfl, rfl, _, rfl, no_part (sl_ints (same_tup e6 hp5) fun H7 p2 e7 h7 => cat_ints (same_tup e7 h6) h7 ?_ fun H8 p3 e8 h8 => ?_)⟩
              all_goals rw [show (t : Int) + 2 = ((t + 2 : Nat) : Int) by omega, cutI_from] at h7
              · rw [show (t : Int) + 2 = ((t + 2 : Nat) : Int) by omega, cutI_from, List.length_take, List.length_drop]
                omega
              · rw [show (t : Int) + 2 = ((t + 2 : Nat) : Int) by omega, cutI_from] at h8
                refine ⟨s6.tr (.same s6.s1 (Same.trans (Same.trans e6 e7) e8)), p3, _, _, _, _, h8, (cut_pair (by omega) m2).trans er, ?_, .inr ?_, rfl⟩
                · rw [List.length_append, List.length_take, List.length_drop]
                  omega
                · rw [List.length_append, List.length_take, List.length_drop]
                  rcases hc with hc | hc
                  · exact absurd (by omega) (nf_at hc t (by omega))
                  · omega
    · obtain ⟨s1, p, cs, x, y, z, hp, er, hl, hc, rfl⟩ := p
      refine ⟨.ref p, rfl, k _ _ s1 ?_⟩
      have hnf : Fr.Nf cs := by
        rcases hc with hc | hc
        · exact hc
        · have : cs = [] := List.eq_nil_of_length_eq_zero (by omega)
          rw [this]
          exact True.intro
      rw [← er, Fr.red_id hnf]
      exact hp
theorem cl__law_struck (T : Txt K mg) : Cl P w K mg base 3 "_law_struck" (spStruck K) := by
  obtain ⟨f, fd, F, hm, hb⟩ := T.f__law_struck
  exact cl_of (ok__law_struck F T) hm F.kp hb
theorem asg_list {σ : L2.St} {H : Hp} {D : Ends} {ta : TA} {n i : Nat} {P : V → Hp → Prop} (pp : ∀ v H H1, Same H H1 → P v H → P v H1) (h : EvA ta σ H n P) (hz : n ≤ 1000)
    (k : ∀ p vs H', Same H H' → H p = none → H' p = some (.lst vs) → vs.length = n → (∀ v ∈ vs, P v H') → D.nx (σ.set i (some (.ref p))) H') : tAsg (tLst ta) (gName i) D σ H :=
  h H (Same.refl _) _ fun vs H1 e hn hv => ⟨Nat.le_of_lt (small1000 (by omega)), fun p hp => k p vs _ (Same.trans e (new_same hp)) (Same.free e hp) upd_same hn fun v hv' => pp _ _ _ (new_same hp) (hv v hv')⟩
theorem cat_list {σ : L2.St} {H : Hp} {ta : TA} {n j : Nat} {l : Addr} {xs : List V} {P : V → Hp → Prop} {Q : VK} (pp : ∀ v H H1, Same H H1 → P v H → P v H1) (h : EvA ta σ H n P) (hj : σ[j]? = some (some (.ref l))) (hl : H l = some (.lst xs)) (hx : ∀ v ∈ xs, P v H) (hz : xs.length + n ≤ 1000)
    (k : ∀ p vs H', Same H H' → H p = none → H' p = some (.lst vs) → vs.length = xs.length + n → (∀ v ∈ vs, P v H') → Q (.ref p) H') : tOp rCat (tVar j) (tLst ta) σ H Q :=
  ⟨.ref l, hj, h H (Same.refl _) _ fun vs H1 e hn hv => ⟨Nat.le_of_lt (small1000 (by omega)), fun b hb => by
    have hlb : l ≠ b := fun q => by
      have z := e _ _ hl
      rw [q, hb] at z
      cases z
    refine ⟨l, b, xs, vs, rfl, rfl, by rw [upd_ne hlb]; exact e _ _ hl, upd_same, Nat.le_of_lt (small1000 (by omega)), fun p hp => ?_⟩
    have e2 := Same.trans (new_same (o := .lst vs) hb) (new_same (o := .lst (xs ++ vs)) hp)
    refine k p (xs ++ vs) _ (Same.trans e e2) (Same.free (Same.trans e (new_same hb)) hp) upd_same (by rw [List.length_append, hn]) fun v hv' => ?_
    rcases List.mem_append.mp hv' with q | q
    · exact pp _ _ _ (Same.trans e e2) (hx v q)
    · exact pp _ _ _ e2 (hv v q)⟩⟩
def spNear (K : PySem.W.Frag) : Sp := fun vs H Q _ => ∃ (S a : Addr) (n : Int) (ns : List Int), vs = [.ref S, .int n, .ref a] ∧ Sk H (some S) ∧ 1 ≤ n ∧ n ≤ 5 ∧ SqT K H a (ns.map V.int) ∧ Wd n ns ∧ ns.length ≤ 150 ∧ ∀ H' p xs, Rs (some S) H H' → H' p = some (.lst xs) → S ≠ p → xs.length ≤ 1000 → (∀ x ∈ xs, Itm K (bareV n 200) x H') → Q (.ref p) H'
theorem bad_in {n : Int} {A B : List (Option Int)} {o : Option Int} (h : okE n o = false) : bareV n 200 (some (A ++ [o] ++ B)) = false := by
  show (rowB n 200 (A ++ [o] ++ B) && _) = false
  unfold rowB
  rw [List.all_append, List.all_append]
  simp [h]
theorem okE_big {n i : Int} (h : n < i) (h0 : 0 < i) : okE n (some i) = false := by
  show (decide _ && decide ((if i < 0 then -i else i) ≤ n)) = false
  rw [if_neg (by omega), decide_eq_false (by omega : ¬ i ≤ n), Bool.and_false]
theorem bareV_some (n m : Int) (os : List (Option Int)) : bareV n m (some os) = (rowB n m os && nfB (intsOf os)) := rfl
theorem long_no (n : Int) : bareV n 200 (some ((List.replicate (201 : Int).toNat n).map some)) = false := by
  have e : rowB n 200 ((List.replicate (201 : Int).toNat n).map some) = false := by
    unfold rowB
    rw [List.length_map, List.length_replicate]
    rfl
  rw [bareV_some, e, Bool.false_and]
theorem rep_one (x : Int) : ∀ k : Nat, Fr.rep [x] k = List.replicate k x
  | 0 => rfl
  | k + 1 => by
    show Fr.rep [x] k ++ [x] = _
    rw [rep_one x k, List.replicate_succ']
theorem nf_same {x : Int} (h : x ≠ 0) : ∀ k : Nat, Fr.Nf (List.replicate k x)
  | 0 => True.intro
  | 1 => True.intro
  | k + 2 => ⟨by omega, nf_same h (k + 1)⟩
theorem evs_un {σ : L2.St} {H : Hp} : EvS (tUn (rU fun i => V.int (-i)) (tC (.int 1))) σ H (IsE K (some (-1))) := fun H1 e Q q => ⟨1, rfl, q _ _ (Same.refl _) (.int (-1))⟩
theorem evs_i {σ : L2.St} {H : Hp} (i : Int) : EvS (tC (.int i)) σ H (IsE K (some i)) := evs_c fun _ _ => .int i
theorem en_bl {H : Hp} (b : Bool) : En K H (.bl b) none := .oth (t := "bool") (i := true) (b := true) (.base (.bl b)) (by decide +kernel) (by decide +kernel) rfl
theorem en_non {H : Hp} : En K H .non none := .oth (t := "NoneType") (i := false) (b := false) (.base .non) (by decide +kernel) (by decide +kernel) rfl
theorem en_str {H : Hp} (x : Str) : En K H (.str x) none := .oth (t := "str") (i := false) (b := false) (.base (.str x)) (by decide +kernel) (by decide +kernel) rfl
theorem en_tup {H : Hp} {a : Addr} {xs : List V} (h : SqT K H a xs) : En K H (.ref a) none := .oth (t := "tuple") (i := false) (b := false) (tyx_tup h) (by decide +kernel) (by decide +kernel) rfl
theorem va_non {H : Hp} : Va K H .non none := .oth (t := "NoneType") (.base .non) (by decide +kernel)
theorem va_int {H : Hp} (i : Int) : Va K H (.int i) none := .oth (t := "int") (.base (.int i)) (by decide +kernel)
theorem va_str {H : Hp} (x : Str) : Va K H (.str x) none := .oth (t := "str") (.base (.str x)) (by decide +kernel)
theorem ok__law_near {f : Addr} {fd : FuncData} (F : Fun K "_law_near" "_law_near" st__law_near f fd) (T : Txt K mg) : FnOk P w K mg base CX0 2 f fd ["sack", "letters", "word"] (spNear K) := by
  have c__law_drawn : Cl P w K mg base 1 "_law_drawn" spDrawn := cl__law_drawn T
  refine F.ok sc__law_near (fun vs H Q E h => ?_) (fun cdv A outer s H vs Q E hr h => ?_)
  · obtain ⟨S, a, n, ns, rfl, _⟩ := h
    rfl
  · obtain ⟨S, a, n, ns, rfl, hS, n1, n5, h, hw, hz, k⟩ := h
    refine ⟨_, (pss_cons (ps_set (i := 3) sc__law_near.nd rfl (Or.inl rfl) (pe_f c__law_drawn hr (by decide) rfl (pa_cons (pv 0) (pa_cons (pe_op op_add (pe_callB (kcall_len (K := K)) (by rfl) T.n_len bo_len (pa_cons (pv 2) pa_nil)) pe_int) pa_nil)))) (pss_cons (ps_set (i := 4) sc__law_near.nd rfl (Or.inl rfl) (pe_lst (pa_cons (pe_tup (pa_cons (pv 2) (pa_cons pe_bl pa_nil))) (pa_cons (pe_tup (pa_cons (pe_callTy (kcall_list (K := K)) (by rfl) T.n_list bo_list (pa_cons (pv 2) pa_nil)) (pa_cons pe_bl pa_nil))) (pa_cons (pe_tup (pa_cons pe_non (pa_cons pe_bl pa_nil))) (pa_cons (pe_tup (pa_cons pe_int (pa_cons pe_bl pa_nil))) (pa_cons (pe_tup (pa_cons pe_str (pa_cons pe_bl pa_nil))) (pa_cons (pe_tup (pa_cons pe_dnewK (pa_cons pe_bl pa_nil))) (pa_cons (pe_tup (pa_cons (pe_tup pa_nil) (pa_cons pe_bl pa_nil))) pa_nil))))))))) (pss_cons (ps_set (i := 4) sc__law_near.nd rfl (Or.inl rfl) (pe_op op_cat (pv 4) (pe_lst (pa_cons (pe_tup (pa_cons (pe_tup (pa_cons (pv 2) pa_nil)) (pa_cons pe_bl pa_nil))) (pa_cons (pe_tup (pa_cons (pe_op (kop_catA (K := K)) (pe_op (kop_catA (K := K)) (pe_slice (ksl_tupA (K := K)) (pv 2) po_none (po_some (pv 3))) (pe_tup (pa_cons pe_int pa_nil))) (pe_slice (ksl_tupA (K := K)) (pv 2) (po_some (pv 3)) po_none)) (pa_cons pe_bl pa_nil))) (pa_cons (pe_tup (pa_cons (pe_op (kop_catA (K := K)) (pv 2) (pe_tup (pa_cons (pe_op op_add (pv 1) pe_int) pa_nil))) (pa_cons pe_bl pa_nil))) pa_nil)))))) (pss_cons (ps_set (i := 4) sc__law_near.nd rfl (Or.inl rfl) (pe_op op_cat (pv 4) (pe_lst (pa_cons (pe_tup (pa_cons (pe_op (kop_catA (K := K)) (pe_op (kop_catA (K := K)) (pe_slice (ksl_tupA (K := K)) (pv 2) po_none (po_some (pv 3))) (pe_tup (pa_cons pe_bl pa_nil))) (pe_slice (ksl_tupA (K := K)) (pv 2) (po_some (pv 3)) po_none)) (pa_cons pe_bl pa_nil))) (pa_cons (pe_tup (pa_cons (pe_op (kop_catA (K := K)) (pe_op (kop_catA (K := K)) (pe_slice (ksl_tupA (K := K)) (pv 2) po_none (po_some (pv 3))) (pe_tup (pa_cons pe_int (pa_cons (pe_un un_neg pe_int) pa_nil)))) (pe_slice (ksl_tupA (K := K)) (pv 2) (po_some (pv 3)) po_none)) (pa_cons pe_bl pa_nil))) pa_nil))))) (pss_cons (ps_set (i := 4) sc__law_near.nd rfl (Or.inl rfl) (pe_op op_cat (pv 4) (pe_lst (pa_cons (pe_tup (pa_cons (pe_op (kop_repA (K := K)) (pe_tup (pa_cons (pv 1) pa_nil)) pe_int) (pa_cons pe_bl pa_nil))) (pa_cons (pe_tup (pa_cons (pe_op (kop_repA (K := K)) (pe_tup (pa_cons (pv 1) pa_nil)) pe_int) (pa_cons pe_bl pa_nil))) (pa_cons (pe_tup (pa_cons (pe_tup (pa_cons (pe_op op_powG pe_int pe_int) pa_nil)) (pa_cons pe_bl pa_nil))) (pa_cons (pe_tup (pa_cons (pe_tup (pa_cons pe_int (pa_cons pe_non pa_nil))) (pa_cons pe_bl pa_nil))) pa_nil))))))) (pss_one (ps_ret (pe_op op_cat (pv 4) (pe_lst (pa_cons (pe_tup (pa_cons (pe_op (kop_catA (K := K)) (pe_op (kop_catA (K := K)) (pe_slice (ksl_tupA (K := K)) (pv 2) po_none (po_some (pv 3))) (pe_tup (pa_cons pe_str pa_nil))) (pe_slice (ksl_tupA (K := K)) (pv 2) (po_some (pv 3)) po_none)) (pa_cons pe_bl pa_nil))) (pa_cons (pe_tup (pa_cons (pe_callTy (kcall_tuple (K := K)) (by rfl) T.n_tuple bo_tuple (pa_cons (pe_lc (own := [("entry", 5)]) rfl sc__law_near.nd (kpi_tup (K := K) (pv 2)) (blkOk_by (N := nm__law_near) (sc := defScope st__law_near) (by decide +kernel)) (fun _ _ _ _ _ => (pg_name (i := 5) sc__law_near.nd rfl (by first | exact Or.inl rfl | exact Or.inr rfl))) (fun _ _ _ _ _ => pts_nil) (fun _ _ _ _ _ => (pe_op op_sub pe_int (pv 5)))) pa_nil)) (pa_cons pe_bl pa_nil))) pa_nil))))))))))), ?_⟩
    refine ⟨.ref S, rfl, .ref a, rfl, a, _, rfl, .inr h, _, _, rfl, rfl, S, _, rfl, hS, by rw [List.length_map]; omega, by rw [List.length_map]; omega, fun H1 r r1 a0 a1 => ?_⟩
    obtain ⟨j, rfl⟩ : ∃ j : Nat, r = (j : Int) := ⟨r.toNat, by omega⟩
    have h1 : SqT K H1 a (ns.map V.int) := r1.tup h
    have pp : ∀ v H H1, Same H H1 → Itm K (bareV n 200) v H → Itm K (bareV n 200) v H1 := fun v H H1 e q => itm_same e q
    let sg : Option V → L2.St := fun x => [some (.ref S), some (.int n), some (.ref a), some (.int (j : Int)), x, none]
    have wd : ∀ (x : Option V) (H2 : Hp), Same H1 H2 → EvS (tVar 2) (sg x) H2 (IsI K ns) := fun x H2 e => evs_var rfl fun H3 e3 => ⟨a, rfl, same_tup (Same.trans e e3) h1⟩
    have ins : ∀ (x : Option V) (H2 : Hp) (te : TE) (os : List (Option Int)), Same H1 H2 → os.length ≤ 10 → EvS te (sg x) H2 (IsT K os) → EvS (tOp (rCatA K) (tOp (rCatA K) (tSl (rSlA K) (tVar 2) tNoPart (tPart (tVar 3))) te) (tSl (rSlA K) (tVar 2) (tPart (tVar 3)) tNoPart)) (sg x) H2 (IsT K ((ns.take j).map some ++ os ++ (ns.drop j).map some)) := fun x H2 te os e hl q =>
      evs_cat (evs_cat (isI (evs_to rfl rfl (same_tup e h1))) q (by rw [List.length_map, List.length_take]; omega)) (isI (evs_from rfl rfl (same_tup e h1))) (by rw [List.length_append, List.length_map, List.length_map, List.length_take, List.length_drop]; omega)
    have row1 : EvA _ (sg none) H1 7 (Itm K (bareV n 200)) :=
      eva_cons pp (itm_t (b := true) (isI (wd none H1 (Same.refl _))) (bare_wd hw (by omega)))
      (eva_cons pp (itm_o (b := false) (te := tCB (rListOf K) (tCons (tVar 2) tNil)) (fun H2 e Q q => ⟨.ref a, rfl, a, _, rfl, .inr (same_tup e h1), fun l hl => q _ _ (new_same hl) (.oth (t := "list") (.base (.lst upd_same)) (by decide +kernel))⟩) rfl)
      (eva_cons pp (itm_o (b := false) (evs_c fun _ _ => va_non) rfl)
      (eva_cons pp (itm_o (b := false) (evs_c fun _ _ => va_int 0) rfl)
      (eva_cons pp (itm_o (b := false) (evs_c fun _ _ => va_str "ab") rfl)
      (eva_cons pp (itm_o (b := false) (te := tDNewK) (fun H2 e Q q => fun d hd => q _ _ (new_same hd) (.oth (t := "dict") (.base (.dK upd_same)) (by decide +kernel))) rfl)
      (eva_cons pp (itm_t (b := true) evs_t0 rfl) eva_nil))))))
    refine asg_list pp row1 (by decide) fun p1 vs1 H2 e2 f2 d2 l2 i2 => ?_
    have row2 : EvA _ (sg (some (.ref p1))) H2 3 (Itm K (bareV n 200)) :=
      eva_cons pp (itm_t (b := false) (evs_t1 (evs_var (i := 2) rfl fun H3 e3 => en_tup (same_tup (Same.trans e2 e3) h1))) (by exact bad_in (A := []) (B := []) rfl))
      (eva_cons pp (itm_t (b := false) (ins _ H2 _ _ e2 (by decide) (evs_t1 (evs_i 0))) (bad_in rfl))
      (eva_cons pp (itm_t (b := false) (evs_cat (isI (wd _ H2 e2)) (evs_t1 (te := tOp (rI0 fun i j => .int (i + j)) (tVar 1) (tC (.int 1))) (o := some (n + 1)) fun H3 e3 Q q => ⟨.int n, rfl, _, _, rfl, rfl, q _ _ (Same.refl _) (.int (n + 1))⟩) (by rw [List.length_map]; show ns.length + 1 ≤ 100000; omega)) (by have := bad_in (A := ns.map some) (B := []) (okE_big (n := n) (i := n + 1) (by omega) (by omega)); rw [List.append_nil] at this; exact this)) eva_nil))
    refine cat_list pp row2 rfl d2 i2 (by rw [l2]; decide) fun p2 vs2 H3 e3 f3 d3 l3 i3 => ?_
    have e13 := Same.trans e2 e3
    have row3 : EvA _ (sg (some (.ref p2))) H3 2 (Itm K (bareV n 200)) :=
      eva_cons pp (itm_t (b := false) (ins _ H3 _ _ e13 (by decide) (evs_t1 (evs_c fun _ _ => en_bl true))) (bad_in rfl))
      (eva_cons pp (itm_t (b := false) (ins _ H3 _ _ e13 (by decide) (evs_t2 (evs_i 1) evs_un)) (by
        have e : (ns.take j).map some ++ [some 1, some (-1)] ++ (ns.drop j).map some = (ns.take j ++ 1 :: -1 :: ns.drop j).map some := by
          rw [List.map_append, List.append_assoc]
          rfl
        rw [e]
        show (rowB n 200 _ && nfB (intsOf _)) = false
        rw [intsOf_some]
        have : nfB (ns.take j ++ 1 :: -1 :: ns.drop j) = false := by
          refine Bool.eq_false_iff.mpr fun q => ?_
          have := Fr.nf_back (nfB_iff.mp q)
          exact this.1 rfl
        rw [this, Bool.and_false])) eva_nil)
    refine cat_list pp row3 rfl d3 i3 (by rw [l3, l2]; decide) fun p3 vs3 H4 e4 f4 d4 l4 i4 => ?_
    have e14 := Same.trans e13 e4
    have lets : ∀ m : Int, 1 ≤ m → m ≤ 1000 → EvS (tOp (rRepA K) (tTup (tCons (tVar 1) tNil)) (tC (.int m))) (sg (some (.ref p3))) H4 (IsI K (List.replicate m.toNat n)) := fun m m1 m2 H5 e5 Q q =>
      ⟨.int n, rfl, by show 1 ≤ sizeLine; decide, fun t ht => rep_ints (ns := [n]) (tup_of upd_same) m1 m2 (by show 1 ≤ 1000; decide) fun H6 p e6 hp => q _ _ (Same.trans (new_same ht) e6) ⟨p, rfl, by rw [rep_one] at hp; exact hp⟩⟩
    have row4 : EvA _ (sg (some (.ref p3))) H4 4 (Itm K (bareV n 200)) :=
      eva_cons pp (itm_t (b := true) (isI (lets 200 (by decide) (by decide))) (bare_wd ⟨fun i hi => by rw [List.eq_of_mem_replicate hi]; omega, nf_same (by omega) _⟩ (by rw [List.length_replicate]; decide)))
      (eva_cons pp (itm_t (b := false) (isI (lets 201 (by decide) (by decide))) (by
        exact long_no n))
      (eva_cons pp (itm_t (b := false) (evs_t1 (te := tOp (rI CPowG fun i j => .int (i ^ j.toNat)) (tC (.int 10)) (tC (.int 62))) (o := some ((10 : Int) ^ (62 : Int).toNat)) fun H5 e5 Q q => ⟨_, _, rfl, rfl, ⟨by decide, by decide +kernel⟩, q _ _ (Same.refl _) (.int _)⟩) (by exact bad_in (A := []) (B := []) (okE_big (Int.lt_of_le_of_lt n5 (by decide +kernel)) (by decide +kernel))))
      (eva_cons pp (itm_t (b := false) (evs_t2 (evs_i 1) (evs_c fun _ _ => en_non)) (by exact bad_in (A := [some 1]) (B := []) rfl)) eva_nil)))
    refine cat_list pp row4 rfl d4 i4 (by rw [l4, l3, l2]; decide) fun p4 vs4 H5 e5 f5 d5 l5 i5 => ?_
    have e15 := Same.trans e14 e5
    have row5 : EvA _ (sg (some (.ref p4))) H5 2 (Itm K (bareV n 200)) :=
      eva_cons pp (itm_t (b := false) (ins _ H5 _ _ e15 (by decide) (evs_t1 (evs_c fun _ _ => en_str "1"))) (bad_in rfl))
      (eva_cons pp (itm_t (b := true) (isI (ns := ns.map fun e => 0 - e) (te := tCB (rTupOf K) (tCons (tLc (iTup K (tVar 2)) (gName 5) tYes (tOp (rI0 fun i j => .int (i - j)) (tC (.int 0)) (tVar 5)) [5]) tNil)) fun H6 e6 Q q => by
        have h6 := same_tup (Same.trans e15 e6) h1
        refine ⟨.ref a, rfl, a, rfl, ⟨_, h6⟩, fun D hD => lc_tup (K := K) (a := a) (xs := ns.map V.int) (fun i H7 => Same H6 H7 ∧ H7 D = some (.lst (((ns.take i).map fun e => 0 - e).map V.int))) ⟨new_same hD, upd_same⟩ (fun i H7 _ u => same_tup u.1 h6) (fun i x H7 hx u => ?_) fun H7 u => ?_⟩
        · obtain ⟨e, he, rfl⟩ := get_int hx
          refine ⟨rfl, .int e, rfl, _, _, rfl, rfl, _, u.2, small1000 (by rw [List.length_map, List.length_map, List.length_take]; omega), same_mut u.1 hD, ?_⟩
          rw [upd_same, List.take_succ, he, List.map_append, List.map_append]
          rfl
        · refine ⟨D, _, rfl, .inl ⟨lst_of u.2, fun l hl => q _ _ (Same.trans u.1 (new_same hl)) ⟨l, rfl, tup_of ?_⟩⟩⟩
          rw [upd_same, List.length_map, List.take_length]) (by
        have e : (ns.map fun e => 0 - e) = ns.map fun e => -e := List.map_congr_left fun e _ => Int.zero_sub e
        rw [e]
        exact bare_wd ⟨fun i hi => by
          obtain ⟨u, hu, rfl⟩ := List.mem_map.mp hi
          have := hw.lt u hu
          omega, Fr.nf_map_neg hw.nf⟩ (by rw [List.length_map]; omega))) eva_nil)
    refine cat_list pp row5 rfl d5 i5 (by rw [l5, l4, l3, l2]; decide) fun p5 vs5 H6 e6 f6 d6 l6 i6 => ?_
    refine k H6 p5 vs5 (r1.tr (.same r1.s1 (Same.trans e15 e6))) d6 (fun q => ?_) (by rw [l6, l5, l4, l3, l2]; decide) i6
    obtain ⟨u1, u2, u3, e⟩ := r1.s1
    have z := Same.trans e15 (Same.refl _) _ _ e
    rw [q, f6] at z
    cases z
theorem cl__law_near (T : Txt K mg) : Cl P w K mg base 2 "_law_near" (spNear K) := by
  obtain ⟨f, fd, F, hm, hb⟩ := T.f__law_near
  exact cl_of (ok__law_near F T) hm F.kp hb
theorem ws_nil {H : Hp} {n : Int} : Ws K H n [] := fun _ h => nomatch h
theorem ws_cons {H : Hp} {n : Int} {a : Addr} {ns : List Int} {ws : List (Addr × List Int)} (h : SqT K H a (ns.map V.int)) (hw : Wd n ns) (hl : ns.length ≤ 200) (r : Ws K H n ws) : Ws K H n ((a, ns) :: ws) := fun p hp => by
  rcases List.mem_cons.mp hp with q | q
  · rw [q]; exact ⟨h, hw, hl⟩
  · exact r p q
theorem eq_list {H : Hp} {a b : Addr} {ns ms : List Int} {Q : VK} (h : SqL K H a (ns.map V.int)) (h2 : SqL K H b (ms.map V.int)) (q : Q (.bl (decide (ns = ms))) H) : rEqD K (.ref a) (.ref b) H Q :=
  ⟨_, _, dp_list h, dp_list h2, shaped_list ns, shaped_list ms, by rw [eqv_list]; exact q⟩
theorem fl1 (a : Addr) (x : List Int) : fl [(a, x)] = x := List.append_nil x
theorem fl2 (a b : Addr) (x y : List Int) : fl [(a, x), (b, y)] = x ++ y := by
  show x ++ (y ++ []) = x ++ y
  rw [List.append_nil]
theorem fl3 (a b c : Addr) (x y z : List Int) : fl [(a, x), (b, y), (c, z)] = x ++ (y ++ z) := by
  show x ++ (y ++ (z ++ [])) = _
  rw [List.append_nil]
theorem lt_rep {n : Int} {w : List Int} (h : Lt n w) : ∀ k, Lt n (Fr.rep w k)
  | 0 => lt_nil
  | k + 1 => lt_app (lt_rep h k) h
theorem lt_pw {n m : Int} {w : List Int} (h : Lt n w) : Lt n (Fr.pw w m) := by
  unfold Fr.pw
  split
  · exact lt_rep (lt_opp h) _
  · exact lt_rep h _
theorem len_pw {m : Int} {w : List Int} {c : Nat} (h1 : -(c : Int) ≤ m) (h2 : m ≤ c) : (Fr.pw w m).length ≤ c * w.length := by
  unfold Fr.pw
  split
  · rw [Fr.rep_len, Fr.opp_len]
    exact Nat.mul_le_mul (by omega) (Nat.le_refl _)
  · rw [Fr.rep_len]
    exact Nat.mul_le_mul (by omega) (Nat.le_refl _)
theorem three {α : Type} {l : List α} (h : l.length = 3) : ∃ a b c, l = [a, b, c] := by
  match l, h with
  | [a, b, c], _ => exact ⟨a, b, c, rfl⟩
theorem add_is {H : Hp} {Q : VK} {i j v : Int} (e : i + j = v) (q : Q (.int v) H) : rI0 (fun i j => V.int (i + j)) (.int i) (.int j) H Q := ⟨i, j, rfl, rfl, by subst e; exact q⟩
theorem sub_is {H : Hp} {Q : VK} {i j v : Int} (e : i - j = v) (q : Q (.int v) H) : rI0 (fun i j => V.int (i - j)) (.int i) (.int j) H Q := ⟨i, j, rfl, rfl, by subst e; exact q⟩
theorem c_part {v : V} {σ : L2.St} {H : Hp} {Q : VK} (h : Q v H) : tC v σ H Q := h
def spRight : Sp := fun vs H Q _ => ∃ S : Addr, vs = [.ref S] ∧ Sk H (some S) ∧ ∀ H', Rs (some S) H H' → Q (.bl true) H'
theorem ok__law_right {f : Addr} {fd : FuncData} (F : Fun K "_law_right" "_law_right" st__law_right f fd) (T : Txt K mg) : FnOk P w K mg base CX0 7 f fd ["sack"] spRight := by
  have c__law_drawn : Cl P w K mg base 1 "_law_drawn" spDrawn := cl__law_drawn T
  have c__law_row : Cl P w K mg base 2 "_law_row" (spRowL K) := cl__law_row T
  have c__law_bare : Cl P w K mg base 1 "_law_bare" (spLBare K) := cl__law_bare T
  have c__law_back : Cl P w K mg base 1 "_law_back" (spOpp K) := cl__law_back T
  have c__law_struck : Cl P w K mg base 3 "_law_struck" (spStruck K) := cl__law_struck T
  have c__law_word : Cl P w K mg base 2 "_law_word" (spWord K) := cl__law_word T
  have c__law_powered : Cl P w K mg base 2 "_law_powered" (spPowered K) := cl__law_powered T
  have c__law_near : Cl P w K mg base 2 "_law_near" (spNear K) := cl__law_near T
  have c_bare : Cl P w K mg base 4 "bare" (spBare K) := cl_bare T
  have c_product : Cl P w K mg base 6 "product" (spProd K) := cl_product T
  have c_contrary : Cl P w K mg base 6 "contrary" (spContr K) := cl_contrary T
  have c_power : Cl P w K mg base 6 "power" (spPow K) := cl_power T
  have c_is_word : Cl P w K mg base 4 "is_word" (spIsWord K) := cl_is_word T
  refine F.ok sc__law_right (fun vs H Q E h => ?_) (fun cdv A outer s H vs Q E hr h => ?_)
  · obtain ⟨S, rfl, _⟩ := h
    rfl
  · obtain ⟨S, rfl, hS, k⟩ := h
    refine ⟨_, (pss_cons (ps_set (i := 1) sc__law_right.nd rfl (Or.inr rfl) (pe_op op_add pe_int (pe_f c__law_drawn hr (by decide) rfl (pa_cons (pv 0) (pa_cons pe_int pa_nil))))) (pss_cons (ps_set (i := 2) sc__law_right.nd rfl (Or.inl rfl) (pe_f c__law_row hr (by decide) rfl (pa_cons (pv 0) (pa_cons (pv 1) (pa_cons (pe_f c__law_drawn hr (by decide) rfl (pa_cons (pv 0) (pa_cons pe_int pa_nil))) pa_nil))))) (pss_cons (ps_set (i := 3) sc__law_right.nd rfl (Or.inl rfl) (pe_f c__law_bare hr (by decide) rfl (pa_cons (pv 2) pa_nil))) (pss_cons (ps_if (PW.pt (pw_or (pt_cmpR (kop_neD (K := K) hr.units) (pe_f c_bare hr (by decide) rfl (pa_cons (pv 1) (pa_cons (pv 2) pa_nil))) (pv 3) (nomark _)) (pw_or1 (pt_cmpR (kop_neD (K := K) hr.units) (pe_f c__law_struck hr (by decide) rfl (pa_cons (pv 0) (pa_cons (pv 2) pa_nil))) (pv 3) (nomark _))))) (pss_one (ps_ret pe_bl)) pss_nil) (pss_cons (ps_asg (pe_lc (own := [("most", 11)]) rfl sc__law_right.nd (kpi_tup (K := K) (pe_tup (pa_cons pe_int (pa_cons pe_int (pa_cons pe_int pa_nil))))) (blkOk_by (N := nm__law_right) (sc := defScope st__law_right) (by decide +kernel)) (fun _ _ _ _ _ => (pg_name (i := 11) sc__law_right.nd rfl (by first | exact Or.inl rfl | exact Or.inr rfl))) (fun _ _ _ _ _ => pts_nil) (fun _ _ _ _ _ => (pe_f c__law_word hr (by decide) rfl (pa_cons (pv 0) (pa_cons (pv 1) (pa_cons (pv 11) pa_nil)))))) (pg_unl (n := 3) rfl (pgs_cons (pg_name (i := 4) sc__law_right.nd rfl (Or.inl rfl)) (pgs_cons (pg_name (i := 5) sc__law_right.nd rfl (Or.inl rfl)) (pgs_cons (pg_name (i := 6) sc__law_right.nd rfl (Or.inl rfl)) pgs_nil))))) (pss_cons (ps_par (i := 7) (j := 8) rfl sc__law_right.nd rfl rfl (by decide) rfl rfl (pa_cons (pe_f c_product hr (by decide) rfl (pa_cons (pv 1) (pa_cons (pv 4) (pa_cons (pv 5) pa_nil)))) (pa_cons (pe_f c_contrary hr (by decide) rfl (pa_cons (pv 1) (pa_cons (pv 4) pa_nil))) pa_nil)) (by with_unfolding_all rfl)) (pss_cons (ps_if (PW.pt (pw_or (pt_cmpR (kop_neD (K := K) hr.units) (pv 7) (pe_f c__law_bare hr (by decide) rfl (pa_cons (pe_op (kop_catA (K := K)) (pv 4) (pv 5)) pa_nil)) (nomark _)) (pw_or (pt_cmpR (kop_neD (K := K) hr.units) (pv 8) (pe_f c__law_back hr (by decide) rfl (pa_cons (pv 4) pa_nil)) (nomark _)) (pw_or1 (pt_cmpR (kop_neD (K := K) hr.units) (pe_f c_product hr (by decide) rfl (pa_cons (pv 1) (pa_cons (pv 4) (pa_cons (pv 8) pa_nil)))) (pe_tup pa_nil) (nomark _)))))) (pss_one (ps_ret pe_bl)) pss_nil) (pss_cons (ps_if (pt_cmpR (kop_neD (K := K) hr.units) (pe_f c_product hr (by decide) rfl (pa_cons (pv 1) (pa_cons (pv 4) (pa_cons (pv 5) (pa_cons (pv 6) pa_nil))))) (pe_f c_product hr (by decide) rfl (pa_cons (pv 1) (pa_cons (pv 4) (pa_cons (pe_f c_product hr (by decide) rfl (pa_cons (pv 1) (pa_cons (pv 5) (pa_cons (pv 6) pa_nil)))) pa_nil)))) (nomark _)) (pss_one (ps_ret pe_bl)) pss_nil) (pss_cons (ps_if (PW.pt (pw_or (pt_cmpR (kop_neD (K := K) hr.units) (pe_f c_product hr (by decide) rfl (pa_cons (pv 1) (pa_cons (pv 7) (pa_cons (pv 6) pa_nil)))) (pe_f c__law_bare hr (by decide) rfl (pa_cons (pe_op (kop_catA (K := K)) (pe_op (kop_catA (K := K)) (pv 4) (pv 5)) (pv 6)) pa_nil)) (nomark _)) (pw_or1 (pt_cmpR (kop_neD (K := K) hr.units) (pe_f c_product hr (by decide) rfl (pa_cons (pv 1) (pa_cons (pv 4) pa_nil))) (pv 4) (nomark _))))) (pss_one (ps_ret pe_bl)) pss_nil) (pss_cons (ps_if (PW.pt (pw_or (pt_cmpR (kop_neD (K := K) hr.units) (pe_f c_contrary hr (by decide) rfl (pa_cons (pv 1) (pa_cons (pv 7) pa_nil))) (pe_f c_product hr (by decide) rfl (pa_cons (pv 1) (pa_cons (pe_f c_contrary hr (by decide) rfl (pa_cons (pv 1) (pa_cons (pv 5) pa_nil))) (pa_cons (pv 8) pa_nil)))) (nomark _)) (pw_or1 (pt_cmpR (kop_neD (K := K) hr.units) (pe_f c_product hr (by decide) rfl (pa_cons (pv 1) pa_nil)) (pe_tup pa_nil) (nomark _))))) (pss_one (ps_ret pe_bl)) pss_nil) (pss_cons (ps_par (i := 9) (j := 10) rfl sc__law_right.nd rfl rfl (by decide) rfl rfl (pa_cons (pe_op op_sub (pe_f c__law_drawn hr (by decide) rfl (pa_cons (pv 0) (pa_cons pe_int pa_nil))) pe_int) (pa_cons (pe_f c__law_drawn hr (by decide) rfl (pa_cons (pv 0) (pa_cons pe_int pa_nil))) pa_nil)) (by with_unfolding_all rfl)) (pss_cons (ps_if (pt_cmpR (kop_neD (K := K) hr.units) (pe_f c_power hr (by decide) rfl (pa_cons (pv 1) (pa_cons (pv 4) (pa_cons (pv 9) pa_nil)))) (pe_f c__law_powered hr (by decide) rfl (pa_cons (pv 4) (pa_cons (pv 9) pa_nil))) (nomark _)) (pss_one (ps_ret pe_bl)) pss_nil) (pss_cons (ps_if (pt_cmpR (kop_neD (K := K) hr.units) (pe_f c_power hr (by decide) rfl (pa_cons (pv 1) (pa_cons (pv 4) (pa_cons (pe_op op_add (pv 9) (pv 10)) pa_nil)))) (pe_f c_product hr (by decide) rfl (pa_cons (pv 1) (pa_cons (pe_f c_power hr (by decide) rfl (pa_cons (pv 1) (pa_cons (pv 4) (pa_cons (pv 9) pa_nil)))) (pa_cons (pe_f c_power hr (by decide) rfl (pa_cons (pv 1) (pa_cons (pv 4) (pa_cons (pv 10) pa_nil)))) pa_nil)))) (nomark _)) (pss_one (ps_ret pe_bl)) pss_nil) (pss_one (ps_ret (pe_cmpR (kop_eqD (K := K) hr.units) (pe_lc (own := [("value", 12), ("told", 13)]) rfl sc__law_right.nd (kpi_list (K := K) (pe_f c__law_near hr (by decide) rfl (pa_cons (pv 0) (pa_cons (pv 1) (pa_cons (pv 3) pa_nil))))) (blkOk_by (N := nm__law_right) (sc := defScope st__law_right) (by decide +kernel)) (fun _ _ _ _ _ => (kpg_tup (K := K) (n := 2) rfl (pgs_cons (pg_name (i := 12) sc__law_right.nd rfl (by first | exact Or.inl rfl | exact Or.inr rfl)) (pgs_cons (pg_name (i := 13) sc__law_right.nd rfl (by first | exact Or.inl rfl | exact Or.inr rfl)) pgs_nil)))) (fun _ _ _ _ _ => pts_one (pt_cmpR op_ne (pe_f c_is_word hr (by decide) rfl (pa_cons (pv 1) (pa_cons (pv 12) pa_nil))) (pv 13) (nomark _))) (fun _ _ _ _ _ => (pv 12))) (pe_lst pa_nil) (nomark _))))))))))))))))), ?_⟩
    refine ⟨.ref S, rfl, S, _, rfl, hS, by decide, by decide, fun H1 r r1 a0 a1 => ?_⟩
    obtain ⟨n, hn⟩ : ∃ n : Int, 1 + r = n := ⟨_, rfl⟩
    refine add_is hn ?_
    have n1 : 1 ≤ n := by omega
    have n5 : n ≤ 5 := by omega
    refine ⟨.ref S, rfl, .int n, rfl, .ref S, rfl, S, _, rfl, r1.s1, by decide, by decide, fun H2 m r2 b0 b1 => ⟨S, n, m, rfl, r2.s1, n1, n5, b0, by omega, fun H3 pr row r3 hrow lrow erow => ?_⟩⟩
    refine ⟨.ref pr, rfl, pr, row, rfl, .inr hrow, by omega, fun H4 pd e4 hdue => ?_⟩
    have wdue := wd_red lrow
    have ldue := len_red row
    generalize hdu : Fr.red row = due at hdue wdue ldue
    have hrow4 := same_tup e4 hrow
    have r4 := ((r1.tr r2).tr r3).tr (.same r3.s1 e4)
    refine ⟨.int n, rfl, .ref pr, rfl, n, pr, row, rfl, n1, n5, hrow4, lrow, by omega, fun H5 p5 e5 h5 => ⟨.ref pd, rfl, ne_tup h5 (same_tup e5 hdue) ⟨_, rfl, ?_⟩⟩⟩
    rw [hdu, show (!decide (due = due)) = false by simp]
    have r5 := r4.tr (.same r4.s1 e5)
    refine ⟨.ref S, rfl, .ref pr, rfl, S, pr, row, rfl, r5.s1, same_tup e5 hrow4, by omega, fun H6 p6 r6 h6 => ⟨.ref pd, rfl, ne_tup h6 (r6.tup (same_tup e5 hdue)) ⟨_, rfl, ?_⟩⟩⟩
    rw [hdu, show (!decide (due = due)) = false by simp]
    have r7 := r5.tr r6
    have due7 := r6.tup (same_tup e5 hdue)
    clear h5 h6 hrow hrow4 hdue
    -- one, other, third
    refine ⟨by show 3 ≤ sizeLine; decide, fun t ht => ⟨t, rfl, ⟨_, tup_of upd_same⟩, fun D hD => ?_⟩⟩
    have r8 : Rs (some S) H (upd H6 t (.tup [.int 7, .int 6, .int 4])) := r7.tr (.same r7.s1 (new_same ht))
    have due8 := same_tup (new_same (o := .tup [.int 7, .int 6, .int 4]) ht) due7
    have t8 : SqT K (upd H6 t (.tup [.int 7, .int 6, .int 4])) t [.int 7, .int 6, .int 4] := tup_of upd_same
    generalize upd H6 t (.tup [.int 7, .int 6, .int 4]) = H8 at r8 due8 t8 hD
    refine lc_tup (K := K) (a := t) (xs := [.int 7, .int 6, .int 4]) (fun i H' => Rs (some S) H8 H' ∧ ∃ ps : List (Addr × List Int), H' D = some (.lst (ps.map fun p => V.ref p.1)) ∧ ps.length = i ∧ ∀ p ∈ ps, SqT K H' p.1 (p.2.map V.int) ∧ Wd n p.2 ∧ p.2.length ≤ 7) ⟨rs_new r8.s1 hD, [], upd_same, rfl, fun _ q => nomatch q⟩ (fun i H' _ q => q.1.tup t8) (fun i x H' hx q => ?_) fun H' q => ?_
    · obtain ⟨q1, ps, d1, l1, h1⟩ := q
      have hxm : ∃ m : Int, x = .int m ∧ 0 ≤ m ∧ m ≤ 7 := by
        match i, hx with
        | 0, hx => cases hx; exact ⟨7, rfl, by decide, by decide⟩
        | 1, hx => cases hx; exact ⟨6, rfl, by decide, by decide⟩
        | 2, hx => cases hx; exact ⟨4, rfl, by decide, by decide⟩
      obtain ⟨m, rfl, m0, m7⟩ := hxm
      have hi : i < 3 := (List.getElem?_eq_some_iff.mp hx).1
      refine ⟨rfl, .ref S, rfl, .int n, rfl, .int m, rfl, S, n, m, rfl, q1.s1, n1, n5, m0, by omega, fun H9 p ns r9 hp hw hl => ?_⟩
      have dD : H9 D = some (.lst (ps.map fun p => V.ref p.1)) := r9.keep _ _ (fun z => sk_ne r8.s1 hD (Option.some.inj z)) d1
      refine ⟨_, dD, small1000 (by rw [List.length_map]; omega), rs_mut (q1.tr r9) hD, ps ++ [(p, ns)], ?_, by rw [List.length_append, l1]; rfl, fun u hu => ?_⟩
      · rw [upd_same, List.map_append]
        rfl
      · have mv : ∀ {a : Addr} {xs : List V}, SqT K H9 a xs → SqT K (upd H9 D (.lst (ps.map (fun p => V.ref p.1) ++ [V.ref p]))) a xs := fun h => by
          rcases h with (h | ⟨o, h⟩) | h
          · exact .inl (.inl (by rw [upd_ne (fun z => by rw [z, dD] at h; cases h)]; exact h))
          · exact .inl (.inr ⟨o, by rw [upd_ne (fun z => by rw [z, dD] at h; cases h)]; exact h⟩)
          · exact .inr h
        rcases List.mem_append.mp hu with z | z
        · obtain ⟨z1, z2, z3⟩ := h1 u z
          exact ⟨mv (r9.tup z1), z2, z3⟩
        · rw [List.mem_singleton.mp z]
          exact ⟨mv hp, hw, by show ns.length ≤ 7; omega⟩
    · obtain ⟨q1, ps, d1, l1, h1⟩ := q
      obtain ⟨u1, u2, u3, rfl⟩ := three l1
      obtain ⟨pa, one⟩ := u1
      obtain ⟨pb, other⟩ := u2
      obtain ⟨pc, third⟩ := u3
      obtain ⟨ha, wa, la⟩ := h1 _ (List.mem_cons_self)
      obtain ⟨hb, wb, lb⟩ := h1 _ (List.mem_cons_of_mem _ List.mem_cons_self)
      obtain ⟨hc, wc, lc⟩ := h1 _ (List.mem_cons_of_mem _ (List.mem_cons_of_mem _ List.mem_cons_self))
      simp only at ha wa la hb wb lb hc wc lc
      refine ⟨D, _, rfl, lst_of d1, rfl, _, _, rfl, _, _, rfl, _, _, rfl, rfl, ?_⟩
      have rb := r8.tr q1
      have dueb := q1.tup due8
      clear h1 d1 q1 due8 due7 t8 l1
      -- from here on nothing is drawn: all that was there stays
      have wab := wd_red (lt_app wa.lt wb.lt)
      have lab := len_red (one ++ other)
      rw [List.length_append] at lab
      have wop := wd_opp wa
      have loa : (Fr.opp one).length = one.length := Fr.opp_len one
      have lob : (Fr.opp other).length = other.length := Fr.opp_len other
      refine ⟨.int n, rfl, .ref pa, rfl, .ref pb, rfl, n, [(pa, one), (pb, other)], rfl, n1, n5, ws_cons ha wa (by omega) (ws_cons hb wb (by omega) ws_nil), by simp, fun G1 pab g1 hab => ?_⟩
      rw [fl2] at hab
      refine ⟨.int n, rfl, .ref pa, rfl, n, pa, one, rfl, n1, n5, same_tup g1 ha, wa, by omega, fun G2 pk g2 hk => ⟨_, _, rfl, ?_⟩⟩
      have g12 := Same.trans g1 g2
      have ha := same_tup g12 ha
      have hb := same_tup g12 hb
      have hc := same_tup g12 hc
      have hab := same_tup g2 hab
      have rb := rb.tr (.same rb.s1 g12)
      have dueb := same_tup g12 dueb
      clear g1 g2 g12
      -- both != bare(one + other)
      refine ⟨.ref pab, rfl, .ref pa, rfl, .ref pb, rfl, cat_ints ha hb (by omega) fun G3 p3 g3 h3 => ⟨p3, _, rfl, .inr h3, by rw [List.length_append]; omega, fun G4 p4 g4 h4 => ne_tup (same_tup (Same.trans g3 g4) hab) h4 ⟨_, rfl, ?_⟩⟩⟩
      rw [show (!decide (Fr.red (one ++ other) = Fr.red (one ++ other))) = false by simp]
      have g := Same.trans g3 g4
      refine ⟨.ref pk, rfl, .ref pa, rfl, pa, one, rfl, same_tup g ha, by omega, fun G5 p5 g5 h5 => ne_tup (same_tup (Same.trans g g5) hk) h5 ⟨_, rfl, ?_⟩⟩
      rw [show (!decide (Fr.opp one = Fr.opp one)) = false by simp]
      have g := Same.trans g g5
      clear g3 g4 g5 h3 h4 h5
      refine ⟨.int n, rfl, .ref pa, rfl, .ref pk, rfl, n, [(pa, one), (pk, Fr.opp one)], rfl, n1, n5, ws_cons (same_tup g ha) wa (by omega) (ws_cons (same_tup g hk) wop (by omega) ws_nil), by simp, fun G6 p6 g6 h6 => ⟨Nat.zero_le _, fun z hz => ne_tup (ms := []) (same_tup (new_same hz) h6) (tup_of upd_same) ⟨_, rfl, ?_⟩⟩⟩
      rw [fl2, Fr.red_opp_self, show (!decide (([] : List Int) = [])) = false by simp]
      have g := Same.trans (Same.trans g g6) (new_same (o := .tup []) hz)
      generalize upd G6 z (.tup []) = G7 at g
      have ha := same_tup g ha
      have hb := same_tup g hb
      have hc := same_tup g hc
      have hab := same_tup g hab
      have hk := same_tup g hk
      have rb := rb.tr (.same rb.s1 g)
      have dueb := same_tup g dueb
      clear g g6 h6 hz
      -- products group
      have wbc := wd_red (lt_app wb.lt wc.lt)
      have lbc := len_red (other ++ third)
      rw [List.length_append] at lbc
      refine ⟨.int n, rfl, .ref pa, rfl, .ref pb, rfl, .ref pc, rfl, n, [(pa, one), (pb, other), (pc, third)], rfl, n1, n5, ws_cons ha wa (by omega) (ws_cons hb wb (by omega) (ws_cons hc wc (by omega) ws_nil)), by simp, fun G1 q1 g1 h1 => ?_⟩
      refine ⟨.int n, rfl, .ref pa, rfl, .int n, rfl, .ref pb, rfl, .ref pc, rfl, n, [(pb, other), (pc, third)], rfl, n1, n5, ws_cons (same_tup g1 hb) wb (by omega) (ws_cons (same_tup g1 hc) wc (by omega) ws_nil), by simp, fun G2 q2 g2 h2 => ?_⟩
      rw [fl2] at h2
      refine ⟨n, [(pa, one), (q2, Fr.red (other ++ third))], rfl, n1, n5, ws_cons (same_tup (Same.trans g1 g2) ha) wa (by omega) (ws_cons h2 wbc (by omega) ws_nil), by simp, fun G3 q3 g3 h3 => ne_tup (same_tup (Same.trans g2 g3) h1) h3 ⟨_, rfl, ?_⟩⟩
      rw [fl3, fl2, Fr.red_app_r, show (!decide (Fr.red (one ++ (other ++ third)) = Fr.red (one ++ (other ++ third)))) = false by simp]
      have g := Same.trans (Same.trans g1 g2) g3
      have ha := same_tup g ha
      have hb := same_tup g hb
      have hc := same_tup g hc
      have hab := same_tup g hab
      have hk := same_tup g hk
      have rb := rb.tr (.same rb.s1 g)
      have dueb := same_tup g dueb
      clear g g1 g2 g3 h1 h2 h3
      -- both, third
      refine ⟨.int n, rfl, .ref pab, rfl, .ref pc, rfl, n, [(pab, Fr.red (one ++ other)), (pc, third)], rfl, n1, n5, ws_cons hab wab (by omega) (ws_cons hc wc (by omega) ws_nil), by simp, fun G1 q1 g1 h1 => ?_⟩
      refine ⟨.ref pa, rfl, .ref pb, rfl, cat_ints (same_tup g1 ha) (same_tup g1 hb) (by omega) fun G2 q2 g2 h2 => ⟨.ref pc, rfl, cat_ints h2 (same_tup (Same.trans g1 g2) hc) (by rw [List.length_append]; omega) fun G3 q3 g3 h3 => ⟨q3, _, rfl, .inr h3, by rw [List.length_append, List.length_append]; omega, fun G4 q4 g4 h4 => ne_tup (same_tup (Same.trans (Same.trans g2 g3) g4) h1) h4 ⟨_, rfl, ?_⟩⟩⟩⟩
      rw [fl2, Fr.red_app_l, show (!decide (Fr.red (one ++ other ++ third) = Fr.red (one ++ other ++ third))) = false by simp]
      have g := Same.trans (Same.trans (Same.trans g1 g2) g3) g4
      refine ⟨.int n, rfl, .ref pa, rfl, n, [(pa, one)], rfl, n1, n5, ws_cons (same_tup g ha) wa (by omega) ws_nil, by simp, fun G5 q5 g5 h5 => ⟨.ref pa, rfl, ne_tup h5 (same_tup (Same.trans g g5) ha) ⟨_, rfl, ?_⟩⟩⟩
      rw [fl1, Fr.red_id wa.nf, show (!decide (one = one)) = false by simp]
      have g := Same.trans g g5
      have ha := same_tup g ha
      have hb := same_tup g hb
      have hab := same_tup g hab
      have hk := same_tup g hk
      have rb := rb.tr (.same rb.s1 g)
      have dueb := same_tup g dueb
      clear g g1 g2 g3 g4 g5 h1 h2 h3 h4 h5
      -- contraries
      refine ⟨.int n, rfl, .ref pab, rfl, n, pab, _, rfl, n1, n5, hab, wab, by omega, fun G1 q1 g1 h1 => ?_⟩
      refine ⟨.int n, rfl, .int n, rfl, .ref pb, rfl, n, pb, other, rfl, n1, n5, same_tup g1 hb, wb, by omega, fun G2 q2 g2 h2 => ?_⟩
      refine ⟨.ref pk, rfl, n, [(q2, Fr.opp other), (pk, Fr.opp one)], rfl, n1, n5, ws_cons h2 (wd_opp wb) (by omega) (ws_cons (same_tup (Same.trans g1 g2) hk) wop (by omega) ws_nil), by simp, fun G3 q3 g3 h3 => ne_tup (same_tup (Same.trans g2 g3) h1) h3 ⟨_, rfl, ?_⟩⟩
      rw [fl2, Fr.opp_red, Fr.opp_app, show (!decide (Fr.red (Fr.opp other ++ Fr.opp one) = Fr.red (Fr.opp other ++ Fr.opp one))) = false by simp]
      have g := Same.trans (Same.trans g1 g2) g3
      refine ⟨.int n, rfl, n, [], rfl, n1, n5, ws_nil, by simp, fun G4 q4 g4 h4 => ⟨Nat.zero_le _, fun z hz => ne_tup (ns := []) (ms := []) (same_tup (new_same hz) h4) (tup_of upd_same) ⟨_, rfl, ?_⟩⟩⟩
      have g := Same.trans (Same.trans g g4) (new_same (o := .tup []) hz)
      generalize upd G4 z (.tup []) = G5 at g
      have ha := same_tup g ha
      have rb := rb.tr (.same rb.s1 g)
      have dueb := same_tup g dueb
      clear g g1 g2 g3 g4 h1 h2 h3 h4 hz hab hk hb hc
      -- powers
      refine ⟨.ref S, rfl, S, _, rfl, rb.s1, by decide, by decide, fun G1 m r1' c0 c1 => ?_⟩
      obtain ⟨many, hm⟩ : ∃ many : Int, m - 4 = many := ⟨_, rfl⟩
      refine c_part (sub_is hm ?_)
      refine ⟨.ref S, rfl, S, _, rfl, r1'.s1, by decide, by decide, fun G2 mm r2' d0 d1 => ⟨_, _, rfl, ?_⟩⟩
      obtain ⟨more, rfl⟩ : ∃ more : Nat, mm = (more : Int) := ⟨mm.toNat, by omega⟩
      have ha := (r1'.tr r2').tup ha
      have dueb := (r1'.tr r2').tup dueb
      have rb := (rb.tr r1').tr r2'
      have lp : ∀ x : Int, -4 ≤ x → x ≤ 4 → (Fr.red (Fr.pw one x)).length ≤ 28 := fun x x0 x1 => by
        have z1 := len_red (Fr.pw one x)
        have z2 := len_pw (w := one) (c := 4) x0 x1
        omega
      refine ⟨.int n, rfl, .ref pa, rfl, .int many, rfl, n, pa, one, many, rfl, n1, n5, ha, wa, by omega, by omega, by omega, fun G3 q3 g3 h3 => ⟨.ref pa, rfl, .int many, rfl, pa, one, many, rfl, same_tup g3 ha, by omega, by omega, by omega, fun G4 q4 g4 h4 => ne_tup (same_tup g4 h3) h4 ⟨_, rfl, ?_⟩⟩⟩
      rw [show (!decide (Fr.red (Fr.pw one many) = Fr.red (Fr.pw one many))) = false by simp]
      have g := Same.trans g3 g4
      have ha := same_tup g ha
      have dueb := same_tup g dueb
      have rb := rb.tr (.same rb.s1 g)
      clear g g3 g4 h3 h4
      refine ⟨.int n, rfl, .ref pa, rfl, .int many, rfl, .int (more : Int), rfl, _, _, rfl, rfl, n, pa, one, _, rfl, n1, n5, ha, wa, by omega, by omega, by omega, fun G3 q3 g3 h3 => ?_⟩
      refine ⟨.int n, rfl, .int n, rfl, .ref pa, rfl, .int many, rfl, n, pa, one, many, rfl, n1, n5, same_tup g3 ha, wa, by omega, by omega, by omega, fun G4 q4 g4 h4 => ?_⟩
      refine ⟨.int n, rfl, .ref pa, rfl, .int (more : Int), rfl, n, pa, one, _, rfl, n1, n5, same_tup (Same.trans g3 g4) ha, wa, by omega, by omega, by omega, fun G5 q5 g5 h5 => ?_⟩
      have z1 := lp many (by omega) (by omega)
      have z2 := lp (more : Int) (by omega) (by omega)
      refine ⟨n, [(q4, _), (q5, _)], rfl, n1, n5, ws_cons (same_tup g5 h4) (wd_red (lt_pw wa.lt)) (by omega) (ws_cons h5 (wd_red (lt_pw wa.lt)) (by omega) ws_nil), by simp, fun G6 q6 g6 h6 => ne_tup (same_tup (Same.trans (Same.trans g4 g5) g6) h3) h6 ⟨_, rfl, ?_⟩⟩
      rw [fl2, ← Fr.red_pw_add, show (!decide (Fr.red (Fr.pw one (many + (more : Int))) = Fr.red (Fr.pw one (many + (more : Int))))) = false by simp]
      have g := Same.trans (Same.trans (Same.trans g3 g4) g5) g6
      have dueb := same_tup g dueb
      have rb := rb.tr (.same rb.s1 g)
      clear g g3 g4 g5 g6 h3 h4 h5 h6
      -- values near
      refine ⟨.ref S, rfl, .int n, rfl, .ref pd, rfl, S, pd, n, due, rfl, rb.s1, n1, n5, dueb, wdue, by omega, fun G7 pl xs r7' d7 _ hlx hit => ⟨pl, rfl, ⟨_, lst_of d7⟩, fun D2 hD2 => ?_⟩⟩
      refine lc_list (K := K) (a := pl) (xs := xs) (fun i H' => Same G7 H' ∧ H' D2 = some (.lst (([] : List Int).map V.int))) ⟨new_same hD2, upd_same⟩ (fun i H' _ q => lst_of (q.1 _ _ d7)) (fun i x H' hx q => ?_) fun H' q => ?_
      · obtain ⟨t2, v, b, o, rfl, ht2, hv, hj⟩ := hit x (List.mem_of_getElem? hx)
        refine ⟨t2, _, rfl, same_tup q.1 ht2, rfl, _, _, rfl, _, _, rfl, rfl, rfl, ?_⟩
        refine ⟨.int n, rfl, v, rfl, n, v, o, rfl, n1, n5, va_same q.1 hv, fun H9 e9 => ⟨.bl b, rfl, rfl, _, rfl, ?_⟩⟩
        rw [hj, show (!decide (V.bl b = V.bl b)) = false by simp]
        exact ⟨Same.trans q.1 e9, e9 _ _ q.2⟩
      · refine ⟨Nat.zero_le _, fun z hz => ?_⟩
        have nz : D2 ≠ z := fun y => by
          have := q.2
          rw [y, hz] at this
          cases this
        refine eq_list (ns := []) (ms := []) (lst_of (by rw [upd_ne nz]; exact q.2)) (lst_of upd_same) ?_
        exact k _ ((rb.tr r7').tr (.same r7'.s1 (Same.trans q.1 (new_same hz))))
theorem cl__law_right (T : Txt K mg) : Cl P w K mg base 7 "_law_right" spRight := by
  obtain ⟨f, fd, F, hm, hb⟩ := T.f__law_right
  exact cl_of (ok__law_right F T) hm F.kp hb
def spLaw (K : PySem.W.Frag) : Sp := fun vs H Q _ => ∃ (a : Addr) (ns : List Int), vs = [.ref a] ∧ SqL K H a (ns.map V.int) ∧ ns.length ≤ 63 ∧ ∀ H', Q (.bl true) H'
theorem dpa_one {H : Hp} {v : V} {d : PyData} {vs : List V} {ds : List PyData} (h : Dp K H v d) (r : DpAll K H vs ds) : DpAll K H (v :: vs) (d :: ds) := .cons h r
theorem wd_dec {n : Int} {ns : List Int} (h : (ns.all fun i => decide (i ≠ 0) && decide (-n ≤ i) && decide (i ≤ n)) = true) (h2 : nfB ns = true) : Wd n ns := ⟨fun i hi => by
  have := List.all_eq_true.mp h i hi
  rw [Bool.and_eq_true, Bool.and_eq_true] at this
  exact ⟨of_decide_eq_true this.1.1, of_decide_eq_true this.1.2, of_decide_eq_true this.2⟩, nfB_iff.mp h2⟩
theorem ok_law {f : Addr} {fd : FuncData} (F : Fun K "law" "law" st_law f fd) (T : Txt K mg) : FnOk P w K mg base CX0 8 f fd ["script"] (spLaw K) := by
  have c__law_right : Cl P w K mg base 7 "_law_right" spRight := cl__law_right T
  have c__law_sack : Cl P w K mg base 1 "_law_sack" (spSack K) := cl__law_sack T
  have c_bare : Cl P w K mg base 4 "bare" (spBare K) := cl_bare T
  have c_product : Cl P w K mg base 6 "product" (spProd K) := cl_product T
  have c_contrary : Cl P w K mg base 6 "contrary" (spContr K) := cl_contrary T
  have c_power : Cl P w K mg base 6 "power" (spPow K) := cl_power T
  refine F.ok sc_law (fun vs H Q E h => ?_) (fun cdv A outer s H vs Q E hr h => ?_)
  · obtain ⟨a, ns, rfl, _⟩ := h
    rfl
  · obtain ⟨a, ns, rfl, h, hl, k⟩ := h
    refine ⟨_, (pss_cons (ps_for PassesOwn.never rfl (pi_range1 rfl T.n_range (pa_cons (pe_callB (call_max2 rfl) (by rfl) T.n_max bo_max (pa_cons pe_int (pa_cons (pe_callB (call_min2 rfl) (by rfl) T.n_min bo_min (pa_cons pe_int (pa_cons (pe_callB (kcall_len (K := K)) (by rfl) T.n_len bo_len (pa_cons (pv 0) pa_nil)) pa_nil))) pa_nil))) pa_nil)) (pg_name (i := 1) sc_law.nd rfl (Or.inl rfl)) (pss_one (ps_if (pt_not (pt_val (pe_f c__law_right hr (by decide) rfl (pa_cons (pe_f c__law_sack hr (by decide) rfl (pa_cons (pv 0) (pa_cons (pv 1) pa_nil))) pa_nil)))) (pss_one (ps_ret pe_bl)) pss_nil))) (pss_cons (ps_set (i := 2) sc_law.nd rfl (Or.inl rfl) (pe_lst (pa_cons (pe_f c_bare hr (by decide) rfl (pa_cons pe_int (pa_cons (pe_tup (pa_cons pe_int (pa_cons pe_int (pa_cons (pe_un un_neg pe_int) (pa_cons (pe_un un_neg pe_int) (pa_cons pe_int (pa_cons pe_int (pa_cons (pe_un un_neg pe_int) pa_nil)))))))) pa_nil))) (pa_cons (pe_f c_product hr (by decide) rfl (pa_cons pe_int (pa_cons (pe_tup (pa_cons pe_int (pa_cons pe_int pa_nil))) (pa_cons (pe_tup (pa_cons (pe_un un_neg pe_int) (pa_cons pe_int pa_nil))) (pa_cons (pe_tup (pa_cons pe_int pa_nil)) pa_nil))))) (pa_cons (pe_f c_contrary hr (by decide) rfl (pa_cons pe_int (pa_cons (pe_tup (pa_cons pe_int (pa_cons (pe_un un_neg pe_int) (pa_cons pe_int pa_nil)))) pa_nil))) pa_nil))))) (pss_cons (ps_if (PW.pt (pw_or (pt_cmpR (kop_neD (K := K) hr.units) (pv 2) (pe_lst (pa_cons (pe_tup (pa_cons pe_int pa_nil)) (pa_cons (pe_tup (pa_cons pe_int (pa_cons pe_int (pa_cons pe_int pa_nil)))) (pa_cons (pe_tup (pa_cons (pe_un un_neg pe_int) (pa_cons pe_int (pa_cons (pe_un un_neg pe_int) pa_nil)))) pa_nil)))) (nomark _)) (pw_or1 (pt_cmpR (kop_neD (K := K) hr.units) (pe_f c_power hr (by decide) rfl (pa_cons pe_int (pa_cons (pe_tup (pa_cons pe_int (pa_cons pe_int (pa_cons (pe_un un_neg pe_int) pa_nil)))) (pa_cons pe_int pa_nil)))) (pe_tup (pa_cons pe_int (pa_cons pe_int (pa_cons pe_int (pa_cons pe_int (pa_cons (pe_un un_neg pe_int) pa_nil)))))) (nomark _))))) (pss_one (ps_ret pe_bl)) pss_nil) (pss_cons (ps_if (pt_cmpR (kop_neD (K := K) hr.units) (pe_f c_power hr (by decide) rfl (pa_cons pe_int (pa_cons (pe_tup (pa_cons pe_int (pa_cons pe_int pa_nil))) (pa_cons (pe_un un_neg pe_int) pa_nil)))) (pe_tup (pa_cons (pe_un un_neg pe_int) (pa_cons (pe_un un_neg pe_int) (pa_cons (pe_un un_neg pe_int) (pa_cons (pe_un un_neg pe_int) pa_nil))))) (nomark _)) (pss_one (ps_ret pe_bl)) pss_nil) (pss_one (ps_ret (pe_and (pe_cmpR (kop_eqD (K := K) hr.units) (pe_f c_power hr (by decide) rfl (pa_cons pe_int (pa_cons (pe_tup (pa_cons pe_int pa_nil)) (pa_cons pe_int pa_nil)))) (pe_op (kop_repA (K := K)) (pe_tup (pa_cons pe_int pa_nil)) pe_int) (nomark _)) (pe_and (pe_cmpR (kop_eqD (K := K) hr.units) (pe_f c_power hr (by decide) rfl (pa_cons pe_int (pa_cons (pe_tup pa_nil) (pa_cons (pe_un un_neg pe_int) pa_nil)))) (pe_tup pa_nil) (nomark _)) (pe_one (pe_cmpR (kop_eqD (K := K) hr.units) (pe_f c_bare hr (by decide) rfl (pa_cons pe_int (pa_cons (pe_op (kop_repA (K := K)) (pe_tup (pa_cons pe_int (pa_cons (pe_un un_neg pe_int) pa_nil))) pe_int) pa_nil))) (pe_tup pa_nil) (nomark _))))))))))), ?_⟩
    refine ⟨.ref a, rfl, a, _, rfl, .inl h, _, _, rfl, _, _, rfl, _, rfl, by split <;> split <;> omega, by split <;> split <;> omega, for_range (lo := 0) (fun i σ H' => Same H H' ∧ ∃ x, σ = [some (.ref a), x, none]) ⟨Same.refl _, none, rfl⟩ (fun i σ H' hi p => ?_) fun σ H' p => ?_⟩
    · obtain ⟨s1, x, rfl⟩ := p
      have h1 : SqL K H' a (ns.map V.int) := (Rs.same (S := none) True.intro s1).lst (fun q => nomatch q) h
      refine ⟨.ref a, rfl, _, rfl, a, ns, _, rfl, h1, by omega, fun H1 S e1 hS hs => ⟨S, rfl, hs, fun H2 r2 => ⟨true, rfl, ?_⟩⟩⟩
      exact ⟨Same.trans s1 fun b o e => r2.keep b o (fun q => by
        cases q
        rw [hS] at e
        cases e) (e1 b o e), _, rfl⟩
    · obtain ⟨s1, x, rfl⟩ := p
      have lt_dec : ∀ {n : Int} {ns : List Int}, (ns.all fun i => decide (i ≠ 0) && decide (-n ≤ i) && decide (i ≤ n)) = true → Lt n ns := fun h i hi => by
        have := List.all_eq_true.mp h i hi
        rw [Bool.and_eq_true, Bool.and_eq_true] at this
        exact ⟨of_decide_eq_true this.1.1, of_decide_eq_true this.1.2, of_decide_eq_true this.2⟩
      have lines : ∀ {n : Nat}, n ≤ 1000 → n ≤ sizeLine := fun h => Nat.le_of_lt (small1000 h)
      clear s1 h hl
      -- told
      refine ⟨2, rfl, 1, rfl, 1, rfl, lines (by decide), fun p1 f1 => ⟨2, p1, [1, 2, -2, -1, 2, 1, -1], rfl, by decide, by decide, tup_of upd_same, lt_dec (by decide), by decide, fun G1 q1 g1 h1 => ?_⟩⟩
      rw [show Fr.red [1, 2, -2, -1, 2, 1, -1] = [2] by decide] at h1
      refine ⟨lines (by decide), fun p2 f2 => ⟨2, rfl, lines (by decide), fun p3 f3 => ⟨lines (by decide), fun p4 f4 => ?_⟩⟩⟩
      have e2 := new_same (o := .tup [.int 1, .int 2]) f2
      have e3 := new_same (o := .tup [.int (-2), .int 1]) f3
      have e4 := new_same (o := .tup [.int 2]) f4
      have t4 := tup_of (K := K) (upd_same (H := upd (upd G1 p2 (.tup [.int 1, .int 2])) p3 (.tup [.int (-2), .int 1])) (a := p4) (o := .tup (([2] : List Int).map V.int)))
      have t3 := same_tup e4 (tup_of (K := K) (upd_same (H := upd G1 p2 (.tup [.int 1, .int 2])) (a := p3) (o := .tup (([-2, 1] : List Int).map V.int))))
      have t2 := same_tup (Same.trans e3 e4) (tup_of (K := K) (upd_same (H := G1) (a := p2) (o := .tup (([1, 2] : List Int).map V.int))))
      have h1 := same_tup (Same.trans (Same.trans e2 e3) e4) h1
      refine ⟨2, [(p2, [1, 2]), (p3, [-2, 1]), (p4, [2])], rfl, by decide, by decide, ws_cons t2 (wd_dec (by decide) (by decide)) (by decide) (ws_cons t3 (wd_dec (by decide) (by decide)) (by decide) (ws_cons t4 (wd_dec (by decide) (by decide)) (by decide) ws_nil)), by simp, fun G2 q2 g2 h2 => ?_⟩
      rw [fl3, show Fr.red ([1, 2] ++ ([-2, 1] ++ [2])) = [1, 1, 2] by decide] at h2
      have h1 := same_tup g2 h1
      clear t2 t3 t4 e2 e3 e4 f1 f2 f3 f4 g1 g2
      refine ⟨2, rfl, lines (by decide), fun p5 f5 => ⟨3, p5, [1, -2, 3], rfl, by decide, by decide, tup_of upd_same, wd_dec (by decide) (by decide), by decide, fun G3 q3 g3 h3 => ?_⟩⟩
      rw [show Fr.opp [1, -2, 3] = [-3, 2, -1] by decide] at h3
      have e5 := Same.trans (new_same (o := .tup [.int 1, .int (-2), .int 3]) f5) g3
      have h1 := same_tup e5 h1
      have h2 := same_tup e5 h2
      clear e5 f5 g3
      refine ⟨lines (by simp), fun L fL => ?_⟩
      have d : upd G3 L (.lst [.ref q1, .ref q2, .ref q3]) L = some (.lst [.ref q1, .ref q2, .ref q3]) := upd_same
      have h1 := same_tup (new_same (o := .lst [.ref q1, .ref q2, .ref q3]) fL) h1
      have h2 := same_tup (new_same (o := .lst [.ref q1, .ref q2, .ref q3]) fL) h2
      have h3 := same_tup (new_same (o := .lst [.ref q1, .ref q2, .ref q3]) fL) h3
      refine ⟨.ref L, rfl, lines (by decide), fun a1 y1 => ⟨lines (by decide), fun a2 y2 => ⟨3, rfl, 1, rfl, lines (by decide), fun a3 y3 => ⟨lines (by simp), fun a4 y4 => ?_⟩⟩⟩⟩
      let o1 : HO := .tup [.int 2]
      let o2 : HO := .tup [.int 1, .int 1, .int 2]
      let o3 : HO := .tup [.int (-3), .int 2, .int (-1)]
      let o4 : HO := .lst [.ref a1, .ref a2, .ref a3]
      have e1 : Same (upd G3 L (.lst [.ref q1, .ref q2, .ref q3])) _ := new_same (o := o1) y1
      have e2 := new_same (o := o2) y2
      have e3 := new_same (o := o3) y3
      have e4 := new_same (o := o4) y4
      have e := Same.trans (Same.trans (Same.trans e1 e2) e3) e4
      let DD : PyData := .list [.tuple ([2].map .int), .tuple ([1, 1, 2].map .int), .tuple ([-3, 2, -1].map .int)]
      refine ⟨DD, DD, .lst (lst_of (e _ _ d)) (.cons (dp_tup (same_tup e h1)) (.cons (dp_tup (same_tup e h2)) (.cons (dp_tup (same_tup e h3)) .nil))), .lst (lst_of upd_same) (.cons (dp_tup (ns := [2]) (same_tup (Same.trans (Same.trans e2 e3) e4) (tup_of upd_same))) (.cons (dp_tup (ns := [1, 1, 2]) (same_tup (Same.trans e3 e4) (tup_of upd_same))) (.cons (dp_tup (ns := [-3, 2, -1]) (same_tup e4 (tup_of upd_same))) .nil))), by decide +kernel, by decide +kernel, _, rfl, ?_⟩
      rw [show (!PyData.eqv DD DD) = false by decide +kernel]
      generalize upd _ a4 o4 = G4
      clear e e1 e2 e3 e4 y1 y2 y3 y4 d h1 h2 h3 fL
      -- power(2, (1, 2, -1), 3)
      refine ⟨1, rfl, lines (by decide), fun p1 f1 => ⟨2, p1, [1, 2, -1], 3, rfl, by decide, by decide, tup_of upd_same, wd_dec (by decide) (by decide), by decide, by decide, by decide, fun G5 q5 g5 h5 => ?_⟩⟩
      refine ⟨1, rfl, lines (by decide), fun p2 f2 => ne_tup (ms := [1, 2, 2, 2, -1]) (same_tup (new_same f2) h5) (tup_of upd_same) ⟨_, rfl, ?_⟩⟩
      rw [show (!decide (Fr.red (Fr.pw [1, 2, -1] 3) = [1, 2, 2, 2, -1])) = false by decide +kernel]
      clear f1 f2 g5 h5
      refine ⟨lines (by decide), fun p1 f1 => ⟨2, rfl, 2, p1, [1, 2], -2, rfl, by decide, by decide, tup_of upd_same, wd_dec (by decide) (by decide), by decide, by decide, by decide, fun G6 q6 g6 h6 => ?_⟩⟩
      refine ⟨2, rfl, 1, rfl, 2, rfl, 1, rfl, lines (by decide), fun p2 f2 => ne_tup (ms := [-2, -1, -2, -1]) (same_tup (new_same f2) h6) (tup_of upd_same) ⟨_, rfl, ?_⟩⟩
      rw [show (!decide (Fr.red (Fr.pw [1, 2] (-2)) = [-2, -1, -2, -1])) = false by decide +kernel]
      clear f1 f2 g6 h6
      -- power(1, (1,), 50), power(1, (), -50), bare(5, (5, -5) * 200)
      refine ⟨lines (by decide), fun p1 f1 => ⟨1, p1, [1], 50, rfl, by decide, by decide, tup_of upd_same, wd_dec (by decide) (by decide), by decide, by decide, by decide, fun G7 q7 g7 h7 => ?_⟩⟩
      refine ⟨lines (by decide), fun p2 f2 => c_part (rep_ints (ns := [1]) (tup_of upd_same) (by decide) (by decide) (by decide) fun G8 p3 g8 h8 => eq_tup (same_tup (Same.trans (new_same f2) g8) h7) h8 ⟨_, rfl, ?_⟩)⟩
      rw [show decide (Fr.red (Fr.pw [1] 50) = Fr.rep [1] (Int.toNat 50)) = true by decide +kernel]
      clear f1 f2 g7 h7 g8 h8
      refine ⟨Nat.zero_le _, fun p1 f1 => ⟨50, rfl, 1, p1, [], -50, rfl, by decide, by decide, tup_of upd_same, wd_dec (by decide) (by decide), by decide, by decide, by decide, fun G9 q9 g9 h9 => ?_⟩⟩
      refine ⟨Nat.zero_le _, fun p2 f2 => eq_tup (ms := []) (same_tup (new_same f2) h9) (tup_of upd_same) ⟨_, rfl, ?_⟩⟩
      rw [show decide (Fr.red (Fr.pw [] (-50)) = []) = true by decide +kernel]
      clear f1 f2 g9 h9
      refine ⟨5, rfl, lines (by decide), fun p1 f1 => c_part (rep_ints (ns := [5, -5]) (tup_of upd_same) (by decide) (by decide) (by decide) fun J1 p3 j1 h1 => ⟨5, p3, _, rfl, by decide, by decide, h1, lt_rep (lt_dec (by decide)) _, by rw [Fr.rep_len]; decide, fun J2 q2 j2 h2 => ⟨Nat.zero_le _, fun p4 f4 => eq_tup (ms := []) (same_tup (new_same f4) h2) (tup_of upd_same) ?_⟩⟩)⟩
      rw [show decide (Fr.red (Fr.rep [5, -5] (Int.toNat 200)) = []) = true by decide +kernel]
      exact k _
end
theorem all_mk {P : Program} {w : World} {K : PySem.W.Frag} {h : Heap} {mg : Str → Option Value} {fa : Addr}
    {f1 : Addr} {od1 an1 : Option Addr} {sl1 : Array (Option Value)} {oc1 kV1 dc1 pm1 cd1 ct1 : Value}
    {f2 : Addr} {od2 an2 : Option Addr} {sl2 : Array (Option Value)} {oc2 kV2 dc2 pm2 cd2 ct2 : Value}
    {f3 : Addr} {od3 an3 : Option Addr} {sl3 : Array (Option Value)} {oc3 kV3 dc3 pm3 cd3 ct3 : Value}
    {f4 : Addr} {od4 an4 : Option Addr} {sl4 : Array (Option Value)} {oc4 kV4 dc4 pm4 cd4 ct4 : Value}
    {f5 : Addr} {od5 an5 : Option Addr} {sl5 : Array (Option Value)} {oc5 kV5 dc5 pm5 cd5 ct5 : Value}
    {f6 : Addr} {od6 an6 : Option Addr} {sl6 : Array (Option Value)} {oc6 kV6 dc6 pm6 cd6 ct6 : Value}
    {f7 : Addr} {od7 an7 : Option Addr} {sl7 : Array (Option Value)} {oc7 kV7 dc7 pm7 cd7 ct7 : Value}
    {f8 : Addr} {od8 an8 : Option Addr} {sl8 : Array (Option Value)} {oc8 kV8 dc8 pm8 cd8 ct8 : Value}
    {f9 : Addr} {od9 an9 : Option Addr} {sl9 : Array (Option Value)} {oc9 kV9 dc9 pm9 cd9 ct9 : Value}
    {f10 : Addr} {od10 an10 : Option Addr} {sl10 : Array (Option Value)} {oc10 kV10 dc10 pm10 cd10 ct10 : Value}
    {f11 : Addr} {od11 an11 : Option Addr} {sl11 : Array (Option Value)} {oc11 kV11 dc11 pm11 cd11 ct11 : Value}
    {f12 : Addr} {od12 an12 : Option Addr} {sl12 : Array (Option Value)} {oc12 kV12 dc12 pm12 cd12 ct12 : Value}
    {f13 : Addr} {od13 an13 : Option Addr} {sl13 : Array (Option Value)} {oc13 kV13 dc13 pm13 cd13 ct13 : Value}
    {f14 : Addr} {od14 an14 : Option Addr} {sl14 : Array (Option Value)} {oc14 kV14 dc14 pm14 cd14 ct14 : Value}
    {f15 : Addr} {od15 an15 : Option Addr} {sl15 : Array (Option Value)} {oc15 kV15 dc15 pm15 cd15 ct15 : Value}
    {f16 : Addr} {od16 an16 : Option Addr} {sl16 : Array (Option Value)} {oc16 kV16 dc16 pm16 cd16 ct16 : Value}
    {f17 : Addr} {od17 an17 : Option Addr} {sl17 : Array (Option Value)} {oc17 kV17 dc17 pm17 cd17 ct17 : Value}
    {f18 : Addr} {od18 an18 : Option Addr} {sl18 : Array (Option Value)} {oc18 kV18 dc18 pm18 cd18 ct18 : Value}
    {f19 : Addr} {od19 an19 : Option Addr} {sl19 : Array (Option Value)} {oc19 kV19 dc19 pm19 cd19 ct19 : Value}
    {f20 : Addr} {od20 an20 : Option Addr} {sl20 : Array (Option Value)} {oc20 kV20 dc20 pm20 cd20 ct20 : Value}
    {f21 : Addr} {od21 an21 : Option Addr} {sl21 : Array (Option Value)} {oc21 kV21 dc21 pm21 cd21 ct21 : Value}
    {f22 : Addr} {od22 an22 : Option Addr} {sl22 : Array (Option Value)} {oc22 kV22 dc22 pm22 cd22 ct22 : Value}
    {f23 : Addr} {od23 an23 : Option Addr} {sl23 : Array (Option Value)} {oc23 kV23 dc23 pm23 cd23 ct23 : Value}
    {f24 : Addr} {od24 an24 : Option Addr} {sl24 : Array (Option Value)} {oc24 kV24 dc24 pm24 cd24 ct24 : Value}
    {f25 : Addr} {od25 an25 : Option Addr} {sl25 : Array (Option Value)} {oc25 kV25 dc25 pm25 cd25 ct25 : Value}
    {f26 : Addr} {od26 an26 : Option Addr} {sl26 : Array (Option Value)} {oc26 kV26 dc26 pm26 cd26 ct26 : Value}
    {f27 : Addr} {od27 an27 : Option Addr} {sl27 : Array (Option Value)} {oc27 kV27 dc27 pm27 cd27 ct27 : Value}
    {f28 : Addr} {od28 an28 : Option Addr} {sl28 : Array (Option Value)} {oc28 kV28 dc28 pm28 cd28 ct28 : Value}
    {f29 : Addr} {od29 an29 : Option Addr} {sl29 : Array (Option Value)} {oc29 kV29 dc29 pm29 cd29 ct29 : Value}
    {f30 : Addr} {od30 an30 : Option Addr} {sl30 : Array (Option Value)} {oc30 kV30 dc30 pm30 cd30 ct30 : Value}
    {t_MAX_LETTERS : Tok}
    {t_MAX_WORD : Tok}
    {t_MAX_ROW : Tok}
    {t_MOST_POWER : Tok}
    {t_MOST_MULTIPLIED : Tok}
    (X : K.In h)
    (G : h.Ns mainGlobals mg)
    (hfa : mg "law" = some (.ref fa))
    (a1 : PySem.W.nsIn K mainGlobals "is_integer" = some (some (.ref f1)))
    (l1 : K.lookup f1 = some ⟨oc1, od1, .func (PySem.W.fnOf "is_integer" "is_integer" (defArgs st_is_integer) (defBody st_is_integer) (defScope st_is_integer) .none kV1 dc1 pm1 an1 cd1 ct1), sl1⟩)
    (c1 : PySem.W.codeIn K cd1 "is_integer" = true)
    (k1 : PySem.W.keepIn K (.ref f1) = true)
    (a2 : PySem.W.nsIn K mainGlobals "is_within" = some (some (.ref f2)))
    (l2 : K.lookup f2 = some ⟨oc2, od2, .func (PySem.W.fnOf "is_within" "is_within" (defArgs st_is_within) (defBody st_is_within) (defScope st_is_within) .none kV2 dc2 pm2 an2 cd2 ct2), sl2⟩)
    (c2 : PySem.W.codeIn K cd2 "is_within" = true)
    (k2 : PySem.W.keepIn K (.ref f2) = true)
    (a3 : PySem.W.nsIn K mainGlobals "reduced" = some (some (.ref f3)))
    (l3 : K.lookup f3 = some ⟨oc3, od3, .func (PySem.W.fnOf "reduced" "reduced" (defArgs st_reduced) (defBody st_reduced) (defScope st_reduced) .none kV3 dc3 pm3 an3 cd3 ct3), sl3⟩)
    (c3 : PySem.W.codeIn K cd3 "reduced" = true)
    (k3 : PySem.W.keepIn K (.ref f3) = true)
    (a4 : PySem.W.nsIn K mainGlobals "is_reduced" = some (some (.ref f4)))
    (l4 : K.lookup f4 = some ⟨oc4, od4, .func (PySem.W.fnOf "is_reduced" "is_reduced" (defArgs st_is_reduced) (defBody st_is_reduced) (defScope st_is_reduced) .none kV4 dc4 pm4 an4 cd4 ct4), sl4⟩)
    (c4 : PySem.W.codeIn K cd4 "is_reduced" = true)
    (k4 : PySem.W.keepIn K (.ref f4) = true)
    (a5 : PySem.W.nsIn K mainGlobals "product_of" = some (some (.ref f5)))
    (l5 : K.lookup f5 = some ⟨oc5, od5, .func (PySem.W.fnOf "product_of" "product_of" (defArgs st_product_of) (defBody st_product_of) (defScope st_product_of) .none kV5 dc5 pm5 an5 cd5 ct5), sl5⟩)
    (c5 : PySem.W.codeIn K cd5 "product_of" = true)
    (k5 : PySem.W.keepIn K (.ref f5) = true)
    (a6 : PySem.W.nsIn K mainGlobals "opposite" = some (some (.ref f6)))
    (l6 : K.lookup f6 = some ⟨oc6, od6, .func (PySem.W.fnOf "opposite" "opposite" (defArgs st_opposite) (defBody st_opposite) (defScope st_opposite) .none kV6 dc6 pm6 an6 cd6 ct6), sl6⟩)
    (c6 : PySem.W.codeIn K cd6 "opposite" = true)
    (k6 : PySem.W.keepIn K (.ref f6) = true)
    (a7 : PySem.W.nsIn K mainGlobals "split_core" = some (some (.ref f7)))
    (l7 : K.lookup f7 = some ⟨oc7, od7, .func (PySem.W.fnOf "split_core" "split_core" (defArgs st_split_core) (defBody st_split_core) (defScope st_split_core) .none kV7 dc7 pm7 an7 cd7 ct7), sl7⟩)
    (c7 : PySem.W.codeIn K cd7 "split_core" = true)
    (k7 : PySem.W.keepIn K (.ref f7) = true)
    (a8 : PySem.W.nsIn K mainGlobals "repeated" = some (some (.ref f8)))
    (l8 : K.lookup f8 = some ⟨oc8, od8, .func (PySem.W.fnOf "repeated" "repeated" (defArgs st_repeated) (defBody st_repeated) (defScope st_repeated) .none kV8 dc8 pm8 an8 cd8 ct8), sl8⟩)
    (c8 : PySem.W.codeIn K cd8 "repeated" = true)
    (k8 : PySem.W.keepIn K (.ref f8) = true)
    (a9 : PySem.W.nsIn K mainGlobals "check_letters" = some (some (.ref f9)))
    (l9 : K.lookup f9 = some ⟨oc9, od9, .func (PySem.W.fnOf "check_letters" "check_letters" (defArgs st_check_letters) (defBody st_check_letters) (defScope st_check_letters) .none kV9 dc9 pm9 an9 cd9 ct9), sl9⟩)
    (c9 : PySem.W.codeIn K cd9 "check_letters" = true)
    (k9 : PySem.W.keepIn K (.ref f9) = true)
    (a10 : PySem.W.nsIn K mainGlobals "check_word" = some (some (.ref f10)))
    (l10 : K.lookup f10 = some ⟨oc10, od10, .func (PySem.W.fnOf "check_word" "check_word" (defArgs st_check_word) (defBody st_check_word) (defScope st_check_word) .none kV10 dc10 pm10 an10 cd10 ct10), sl10⟩)
    (c10 : PySem.W.codeIn K cd10 "check_word" = true)
    (k10 : PySem.W.keepIn K (.ref f10) = true)
    (a11 : PySem.W.nsIn K mainGlobals "check_words" = some (some (.ref f11)))
    (l11 : K.lookup f11 = some ⟨oc11, od11, .func (PySem.W.fnOf "check_words" "check_words" (defArgs st_check_words) (defBody st_check_words) (defScope st_check_words) .none kV11 dc11 pm11 an11 cd11 ct11), sl11⟩)
    (c11 : PySem.W.codeIn K cd11 "check_words" = true)
    (k11 : PySem.W.keepIn K (.ref f11) = true)
    (a12 : PySem.W.nsIn K mainGlobals "is_row" = some (some (.ref f12)))
    (l12 : K.lookup f12 = some ⟨oc12, od12, .func (PySem.W.fnOf "is_row" "is_row" (defArgs st_is_row) (defBody st_is_row) (defScope st_is_row) .none kV12 dc12 pm12 an12 cd12 ct12), sl12⟩)
    (c12 : PySem.W.codeIn K cd12 "is_row" = true)
    (k12 : PySem.W.keepIn K (.ref f12) = true)
    (a13 : PySem.W.nsIn K mainGlobals "is_bare_row" = some (some (.ref f13)))
    (l13 : K.lookup f13 = some ⟨oc13, od13, .func (PySem.W.fnOf "is_bare_row" "is_bare_row" (defArgs st_is_bare_row) (defBody st_is_bare_row) (defScope st_is_bare_row) .none kV13 dc13 pm13 an13 cd13 ct13), sl13⟩)
    (c13 : PySem.W.codeIn K cd13 "is_bare_row" = true)
    (k13 : PySem.W.keepIn K (.ref f13) = true)
    (a14 : PySem.W.nsIn K mainGlobals "is_word" = some (some (.ref f14)))
    (l14 : K.lookup f14 = some ⟨oc14, od14, .func (PySem.W.fnOf "is_word" "is_word" (defArgs st_is_word) (defBody st_is_word) (defScope st_is_word) .none kV14 dc14 pm14 an14 cd14 ct14), sl14⟩)
    (c14 : PySem.W.codeIn K cd14 "is_word" = true)
    (k14 : PySem.W.keepIn K (.ref f14) = true)
    (a15 : PySem.W.nsIn K mainGlobals "bare" = some (some (.ref f15)))
    (l15 : K.lookup f15 = some ⟨oc15, od15, .func (PySem.W.fnOf "bare" "bare" (defArgs st_bare) (defBody st_bare) (defScope st_bare) .none kV15 dc15 pm15 an15 cd15 ct15), sl15⟩)
    (c15 : PySem.W.codeIn K cd15 "bare" = true)
    (k15 : PySem.W.keepIn K (.ref f15) = true)
    (a16 : PySem.W.nsIn K mainGlobals "product" = some (some (.ref f16)))
    (l16 : K.lookup f16 = some ⟨oc16, od16, .func (PySem.W.fnOf "product" "product" (defArgs st_product) (defBody st_product) (defScope st_product) .none kV16 dc16 pm16 an16 cd16 ct16), sl16⟩)
    (c16 : PySem.W.codeIn K cd16 "product" = true)
    (k16 : PySem.W.keepIn K (.ref f16) = true)
    (a17 : PySem.W.nsIn K mainGlobals "contrary" = some (some (.ref f17)))
    (l17 : K.lookup f17 = some ⟨oc17, od17, .func (PySem.W.fnOf "contrary" "contrary" (defArgs st_contrary) (defBody st_contrary) (defScope st_contrary) .none kV17 dc17 pm17 an17 cd17 ct17), sl17⟩)
    (c17 : PySem.W.codeIn K cd17 "contrary" = true)
    (k17 : PySem.W.keepIn K (.ref f17) = true)
    (a18 : PySem.W.nsIn K mainGlobals "power" = some (some (.ref f18)))
    (l18 : K.lookup f18 = some ⟨oc18, od18, .func (PySem.W.fnOf "power" "power" (defArgs st_power) (defBody st_power) (defScope st_power) .none kV18 dc18 pm18 an18 cd18 ct18), sl18⟩)
    (c18 : PySem.W.codeIn K cd18 "power" = true)
    (k18 : PySem.W.keepIn K (.ref f18) = true)
    (a19 : PySem.W.nsIn K mainGlobals "_law_sack" = some (some (.ref f19)))
    (l19 : K.lookup f19 = some ⟨oc19, od19, .func (PySem.W.fnOf "_law_sack" "_law_sack" (defArgs st__law_sack) (defBody st__law_sack) (defScope st__law_sack) .none kV19 dc19 pm19 an19 cd19 ct19), sl19⟩)
    (c19 : PySem.W.codeIn K cd19 "_law_sack" = true)
    (k19 : PySem.W.keepIn K (.ref f19) = true)
    (a20 : PySem.W.nsIn K mainGlobals "_law_drawn" = some (some (.ref f20)))
    (l20 : K.lookup f20 = some ⟨oc20, od20, .func (PySem.W.fnOf "_law_drawn" "_law_drawn" (defArgs st__law_drawn) (defBody st__law_drawn) (defScope st__law_drawn) .none kV20 dc20 pm20 an20 cd20 ct20), sl20⟩)
    (c20 : PySem.W.codeIn K cd20 "_law_drawn" = true)
    (k20 : PySem.W.keepIn K (.ref f20) = true)
    (a21 : PySem.W.nsIn K mainGlobals "_law_liked" = some (some (.ref f21)))
    (l21 : K.lookup f21 = some ⟨oc21, od21, .func (PySem.W.fnOf "_law_liked" "_law_liked" (defArgs st__law_liked) (defBody st__law_liked) (defScope st__law_liked) .none kV21 dc21 pm21 an21 cd21 ct21), sl21⟩)
    (c21 : PySem.W.codeIn K cd21 "_law_liked" = true)
    (k21 : PySem.W.keepIn K (.ref f21) = true)
    (a22 : PySem.W.nsIn K mainGlobals "_law_bare" = some (some (.ref f22)))
    (l22 : K.lookup f22 = some ⟨oc22, od22, .func (PySem.W.fnOf "_law_bare" "_law_bare" (defArgs st__law_bare) (defBody st__law_bare) (defScope st__law_bare) .none kV22 dc22 pm22 an22 cd22 ct22), sl22⟩)
    (c22 : PySem.W.codeIn K cd22 "_law_bare" = true)
    (k22 : PySem.W.keepIn K (.ref f22) = true)
    (a23 : PySem.W.nsIn K mainGlobals "_law_back" = some (some (.ref f23)))
    (l23 : K.lookup f23 = some ⟨oc23, od23, .func (PySem.W.fnOf "_law_back" "_law_back" (defArgs st__law_back) (defBody st__law_back) (defScope st__law_back) .none kV23 dc23 pm23 an23 cd23 ct23), sl23⟩)
    (c23 : PySem.W.codeIn K cd23 "_law_back" = true)
    (k23 : PySem.W.keepIn K (.ref f23) = true)
    (a24 : PySem.W.nsIn K mainGlobals "_law_word" = some (some (.ref f24)))
    (l24 : K.lookup f24 = some ⟨oc24, od24, .func (PySem.W.fnOf "_law_word" "_law_word" (defArgs st__law_word) (defBody st__law_word) (defScope st__law_word) .none kV24 dc24 pm24 an24 cd24 ct24), sl24⟩)
    (c24 : PySem.W.codeIn K cd24 "_law_word" = true)
    (k24 : PySem.W.keepIn K (.ref f24) = true)
    (a25 : PySem.W.nsIn K mainGlobals "_law_powered" = some (some (.ref f25)))
    (l25 : K.lookup f25 = some ⟨oc25, od25, .func (PySem.W.fnOf "_law_powered" "_law_powered" (defArgs st__law_powered) (defBody st__law_powered) (defScope st__law_powered) .none kV25 dc25 pm25 an25 cd25 ct25), sl25⟩)
    (c25 : PySem.W.codeIn K cd25 "_law_powered" = true)
    (k25 : PySem.W.keepIn K (.ref f25) = true)
    (a26 : PySem.W.nsIn K mainGlobals "_law_struck" = some (some (.ref f26)))
    (l26 : K.lookup f26 = some ⟨oc26, od26, .func (PySem.W.fnOf "_law_struck" "_law_struck" (defArgs st__law_struck) (defBody st__law_struck) (defScope st__law_struck) .none kV26 dc26 pm26 an26 cd26 ct26), sl26⟩)
    (c26 : PySem.W.codeIn K cd26 "_law_struck" = true)
    (k26 : PySem.W.keepIn K (.ref f26) = true)
    (a27 : PySem.W.nsIn K mainGlobals "_law_row" = some (some (.ref f27)))
    (l27 : K.lookup f27 = some ⟨oc27, od27, .func (PySem.W.fnOf "_law_row" "_law_row" (defArgs st__law_row) (defBody st__law_row) (defScope st__law_row) .none kV27 dc27 pm27 an27 cd27 ct27), sl27⟩)
    (c27 : PySem.W.codeIn K cd27 "_law_row" = true)
    (k27 : PySem.W.keepIn K (.ref f27) = true)
    (a28 : PySem.W.nsIn K mainGlobals "_law_near" = some (some (.ref f28)))
    (l28 : K.lookup f28 = some ⟨oc28, od28, .func (PySem.W.fnOf "_law_near" "_law_near" (defArgs st__law_near) (defBody st__law_near) (defScope st__law_near) .none kV28 dc28 pm28 an28 cd28 ct28), sl28⟩)
    (c28 : PySem.W.codeIn K cd28 "_law_near" = true)
    (k28 : PySem.W.keepIn K (.ref f28) = true)
    (a29 : PySem.W.nsIn K mainGlobals "_law_right" = some (some (.ref f29)))
    (l29 : K.lookup f29 = some ⟨oc29, od29, .func (PySem.W.fnOf "_law_right" "_law_right" (defArgs st__law_right) (defBody st__law_right) (defScope st__law_right) .none kV29 dc29 pm29 an29 cd29 ct29), sl29⟩)
    (c29 : PySem.W.codeIn K cd29 "_law_right" = true)
    (k29 : PySem.W.keepIn K (.ref f29) = true)
    (a30 : PySem.W.nsIn K mainGlobals "law" = some (some (.ref f30)))
    (l30 : K.lookup f30 = some ⟨oc30, od30, .func (PySem.W.fnOf "law" "law" (defArgs st_law) (defBody st_law) (defScope st_law) .none kV30 dc30 pm30 an30 cd30 ct30), sl30⟩)
    (c30 : PySem.W.codeIn K cd30 "law" = true)
    (k30 : PySem.W.keepIn K (.ref f30) = true)
    (q_MAX_LETTERS : PySem.W.nsIn K mainGlobals "MAX_LETTERS" = some (some (.int 5 t_MAX_LETTERS)))
    (q_MAX_WORD : PySem.W.nsIn K mainGlobals "MAX_WORD" = some (some (.int 200 t_MAX_WORD)))
    (q_MAX_ROW : PySem.W.nsIn K mainGlobals "MAX_ROW" = some (some (.int 400 t_MAX_ROW)))
    (q_MOST_POWER : PySem.W.nsIn K mainGlobals "MOST_POWER" = some (some (.int 50 t_MOST_POWER)))
    (q_MOST_MULTIPLIED : PySem.W.nsIn K mainGlobals "MOST_MULTIPLIED" = some (some (.int 50 t_MOST_MULTIPLIED)))
    (z_abs : PySem.W.nsIn K mainGlobals "abs" = some none)
    (z_all : PySem.W.nsIn K mainGlobals "all" = some none)
    (z_bool : PySem.W.nsIn K mainGlobals "bool" = some none)
    (z_int : PySem.W.nsIn K mainGlobals "int" = some none)
    (z_isinstance : PySem.W.nsIn K mainGlobals "isinstance" = some none)
    (z_len : PySem.W.nsIn K mainGlobals "len" = some none)
    (z_list : PySem.W.nsIn K mainGlobals "list" = some none)
    (z_max : PySem.W.nsIn K mainGlobals "max" = some none)
    (z_min : PySem.W.nsIn K mainGlobals "min" = some none)
    (z_range : PySem.W.nsIn K mainGlobals "range" = some none)
    (z_tuple : PySem.W.nsIn K mainGlobals "tuple" = some none)
    : ∃ fd : FuncData, (∀ (s : Shared) (v : Value), BindsTo s fd ⟨[v], []⟩ [("script", v)]) ∧ ∀ base : Heap, K.In base → base.Ns mainGlobals mg → FnOk P w K mg base CX0 8 fa fd ["script"] (spLaw K) := by
  have e := hfa.symm.trans (PySem.W.mg_of X G a30)
  cases e
  have F1 := fun_mk (st := st_is_integer) l1 c1 k1
  have b1 := F1.binds (ps := ["value"]) fun _ _ _ _ _ _ us hl => match us, hl with | [_], _ => rfl
  have F2 := fun_mk (st := st_is_within) l2 c2 k2
  have b2 := F2.binds (ps := ["value", "least", "most"]) fun _ _ _ _ _ _ us hl => match us, hl with | [_, _, _], _ => rfl
  have F3 := fun_mk (st := st_reduced) l3 c3 k3
  have b3 := F3.binds (ps := ["row"]) fun _ _ _ _ _ _ us hl => match us, hl with | [_], _ => rfl
  have F4 := fun_mk (st := st_is_reduced) l4 c4 k4
  have b4 := F4.binds (ps := ["row"]) fun _ _ _ _ _ _ us hl => match us, hl with | [_], _ => rfl
  have F5 := fun_mk (st := st_product_of) l5 c5 k5
  have b5 := F5.binds (ps := ["rows"]) fun _ _ _ _ _ _ us hl => match us, hl with | [_], _ => rfl
  have F6 := fun_mk (st := st_opposite) l6 c6 k6
  have b6 := F6.binds (ps := ["row"]) fun _ _ _ _ _ _ us hl => match us, hl with | [_], _ => rfl
  have F7 := fun_mk (st := st_split_core) l7 c7 k7
  have b7 := F7.binds (ps := ["row"]) fun _ _ _ _ _ _ us hl => match us, hl with | [_], _ => rfl
  have F8 := fun_mk (st := st_repeated) l8 c8 k8
  have b8 := F8.binds (ps := ["row", "many"]) fun _ _ _ _ _ _ us hl => match us, hl with | [_, _], _ => rfl
  have F9 := fun_mk (st := st_check_letters) l9 c9 k9
  have b9 := F9.binds (ps := ["letters"]) fun _ _ _ _ _ _ us hl => match us, hl with | [_], _ => rfl
  have F10 := fun_mk (st := st_check_word) l10 c10 k10
  have b10 := F10.binds (ps := ["letters", "word"]) fun _ _ _ _ _ _ us hl => match us, hl with | [_, _], _ => rfl
  have F11 := fun_mk (st := st_check_words) l11 c11 k11
  have b11 := F11.binds (ps := ["letters", "words"]) fun _ _ _ _ _ _ us hl => match us, hl with | [_, _], _ => rfl
  have F12 := fun_mk (st := st_is_row) l12 c12 k12
  have b12 := F12.binds (ps := ["letters", "value", "most"]) fun _ _ _ _ _ _ us hl => match us, hl with | [_, _, _], _ => rfl
  have F13 := fun_mk (st := st_is_bare_row) l13 c13 k13
  have b13 := F13.binds (ps := ["letters", "value", "most"]) fun _ _ _ _ _ _ us hl => match us, hl with | [_, _, _], _ => rfl
  have F14 := fun_mk (st := st_is_word) l14 c14 k14
  have b14 := F14.binds (ps := ["letters", "value"]) fun _ _ _ _ _ _ us hl => match us, hl with | [_, _], _ => rfl
  have F15 := fun_mk (st := st_bare) l15 c15 k15
  have b15 := F15.binds (ps := ["letters", "row"]) fun _ _ _ _ _ _ us hl => match us, hl with | [_, _], _ => rfl
  have F16 := fun_mk (st := st_product) l16 c16 k16
  have F17 := fun_mk (st := st_contrary) l17 c17 k17
  have b17 := F17.binds (ps := ["letters", "word"]) fun _ _ _ _ _ _ us hl => match us, hl with | [_, _], _ => rfl
  have F18 := fun_mk (st := st_power) l18 c18 k18
  have b18 := F18.binds (ps := ["letters", "word", "many"]) fun _ _ _ _ _ _ us hl => match us, hl with | [_, _, _], _ => rfl
  have F19 := fun_mk (st := st__law_sack) l19 c19 k19
  have b19 := F19.binds (ps := ["script", "spot"]) fun _ _ _ _ _ _ us hl => match us, hl with | [_, _], _ => rfl
  have F20 := fun_mk (st := st__law_drawn) l20 c20 k20
  have b20 := F20.binds (ps := ["sack", "total"]) fun _ _ _ _ _ _ us hl => match us, hl with | [_, _], _ => rfl
  have F21 := fun_mk (st := st__law_liked) l21 c21 k21
  have b21 := F21.binds (ps := ["sack", "items"]) fun _ _ _ _ _ _ us hl => match us, hl with | [_, _], _ => rfl
  have F22 := fun_mk (st := st__law_bare) l22 c22 k22
  have b22 := F22.binds (ps := ["row"]) fun _ _ _ _ _ _ us hl => match us, hl with | [_], _ => rfl
  have F23 := fun_mk (st := st__law_back) l23 c23 k23
  have b23 := F23.binds (ps := ["word"]) fun _ _ _ _ _ _ us hl => match us, hl with | [_], _ => rfl
  have F24 := fun_mk (st := st__law_word) l24 c24 k24
  have b24 := F24.binds (ps := ["sack", "letters", "most"]) fun _ _ _ _ _ _ us hl => match us, hl with | [_, _, _], _ => rfl
  have F25 := fun_mk (st := st__law_powered) l25 c25 k25
  have b25 := F25.binds (ps := ["word", "many"]) fun _ _ _ _ _ _ us hl => match us, hl with | [_, _], _ => rfl
  have F26 := fun_mk (st := st__law_struck) l26 c26 k26
  have b26 := F26.binds (ps := ["sack", "row"]) fun _ _ _ _ _ _ us hl => match us, hl with | [_, _], _ => rfl
  have F27 := fun_mk (st := st__law_row) l27 c27 k27
  have b27 := F27.binds (ps := ["sack", "letters", "many"]) fun _ _ _ _ _ _ us hl => match us, hl with | [_, _, _], _ => rfl
  have F28 := fun_mk (st := st__law_near) l28 c28 k28
  have b28 := F28.binds (ps := ["sack", "letters", "word"]) fun _ _ _ _ _ _ us hl => match us, hl with | [_, _, _], _ => rfl
  have F29 := fun_mk (st := st__law_right) l29 c29 k29
  have b29 := F29.binds (ps := ["sack"]) fun _ _ _ _ _ _ us hl => match us, hl with | [_], _ => rfl
  have T : Txt K mg := ⟨⟨_, _, F1, PySem.W.mg_of X G a1, b1⟩,
    ⟨_, _, F2, PySem.W.mg_of X G a2, b2⟩,
    ⟨_, _, F3, PySem.W.mg_of X G a3, b3⟩,
    ⟨_, _, F4, PySem.W.mg_of X G a4, b4⟩,
    ⟨_, _, F5, PySem.W.mg_of X G a5, b5⟩,
    ⟨_, _, F6, PySem.W.mg_of X G a6, b6⟩,
    ⟨_, _, F7, PySem.W.mg_of X G a7, b7⟩,
    ⟨_, _, F8, PySem.W.mg_of X G a8, b8⟩,
    ⟨_, _, F9, PySem.W.mg_of X G a9, b9⟩,
    ⟨_, _, F10, PySem.W.mg_of X G a10, b10⟩,
    ⟨_, _, F11, PySem.W.mg_of X G a11, b11⟩,
    ⟨_, _, F12, PySem.W.mg_of X G a12, b12⟩,
    ⟨_, _, F13, PySem.W.mg_of X G a13, b13⟩,
    ⟨_, _, F14, PySem.W.mg_of X G a14, b14⟩,
    ⟨_, _, F15, PySem.W.mg_of X G a15, b15⟩,
    ⟨_, _, F16, PySem.W.mg_of X G a16⟩,
    ⟨_, _, F17, PySem.W.mg_of X G a17, b17⟩,
    ⟨_, _, F18, PySem.W.mg_of X G a18, b18⟩,
    ⟨_, _, F19, PySem.W.mg_of X G a19, b19⟩,
    ⟨_, _, F20, PySem.W.mg_of X G a20, b20⟩,
    ⟨_, _, F21, PySem.W.mg_of X G a21, b21⟩,
    ⟨_, _, F22, PySem.W.mg_of X G a22, b22⟩,
    ⟨_, _, F23, PySem.W.mg_of X G a23, b23⟩,
    ⟨_, _, F24, PySem.W.mg_of X G a24, b24⟩,
    ⟨_, _, F25, PySem.W.mg_of X G a25, b25⟩,
    ⟨_, _, F26, PySem.W.mg_of X G a26, b26⟩,
    ⟨_, _, F27, PySem.W.mg_of X G a27, b27⟩,
    ⟨_, _, F28, PySem.W.mg_of X G a28, b28⟩,
    ⟨_, _, F29, PySem.W.mg_of X G a29, b29⟩,
    ⟨_, PySem.W.mg_of X G q_MAX_LETTERS⟩,
    ⟨_, PySem.W.mg_of X G q_MAX_WORD⟩,
    ⟨_, PySem.W.mg_of X G q_MAX_ROW⟩,
    ⟨_, PySem.W.mg_of X G q_MOST_POWER⟩,
    ⟨_, PySem.W.mg_of X G q_MOST_MULTIPLIED⟩,
    PySem.W.mg_none_of X G z_abs,
    PySem.W.mg_none_of X G z_all,
    PySem.W.mg_none_of X G z_bool,
    PySem.W.mg_none_of X G z_int,
    PySem.W.mg_none_of X G z_isinstance,
    PySem.W.mg_none_of X G z_len,
    PySem.W.mg_none_of X G z_list,
    PySem.W.mg_none_of X G z_max,
    PySem.W.mg_none_of X G z_min,
    PySem.W.mg_none_of X G z_range,
    PySem.W.mg_none_of X G z_tuple⟩
  exact ⟨PySem.W.fnOf "law" "law" (defArgs st_law) (defBody st_law) (defScope st_law) .none kV30 dc30 pm30 an30 cd30 ct30, fun s v => .of_eq rfl, fun base _ _ => ok_law (fun_mk (st := st_law) l30 c30 k30) T⟩
theorem walk {l : PySem.W.OpenLaw} {q : Program} {loose : List Str} {XP : (Str → Option Value) → Heap → Prop} {YP : World → Heap → Prop} {d : DefRec} {K : Params → PySem.W.Frag} (hn : l.most = some 63) (hdf : d.params.defaults = [])
    (hY : ∀ (w : World) (h : Heap), YP w h → (K w.params).In h)
    (F : ∀ (w : World) (mg : Str → Option Value) (fa : Addr) (h : Heap), (K w.params).In h → h.Ns mainGlobals mg → mg d.name = some (.ref fa) →
      ∃ fd : FuncData, (∀ (s : Shared) (u : Value), BindsTo s fd ⟨[u], []⟩ [("script", u)]) ∧ ∀ base : Heap, (K w.params).In base → base.Ns mainGlobals mg → FnOk l.prog w (K w.params) mg base CX0 8 fa fd ["script"] (spLaw (K w.params))) :
    PySem.W.WalkO q loose XP YP l.row.toRowW d [] (fun f vs => PySem.call f vs) :=
  L2.walk_of (n := 63) (k := 8) (x := "script") (CX := fun _ => CX0) (sp := fun w => spLaw (K w.params)) hn (by decide) hdf ⟨rfl, by decide, by decide⟩ hY F (fun _ _ a ns hl _ hS => ⟨a, ns, rfl, hS, hl, fun _ => rfl⟩) fun _ _ _ _ _ z => z
end Pr

open PySem PySem.W PyProof.Rows in
set_option maxRecDepth 100000 in
set_option maxHeartbeats 0 in
theorem PySem.Challenge.cw_noroadback_k00_whole_bare_forms_and_prod_holds : PySem.Challenge.rw_noroadback_k00_whole_bare_forms_and_prod.Holds := by
  w_on; o_law; k_head; (case hw => w_witness2)
  k_fill
  refine Pr.walk (l := PySem.Challenge.rw_noroadback_k00_whole_bare_forms_and_prod) rfl rfl (fun w h Y => PySem.W.kIn_of Y) ?F
  case F =>
    intro w mg fa h KX G hmg
    refine' Pr.all_mk KX G hmg ?a1 ?l1 ?c1 ?k1 ?a2 ?l2 ?c2 ?k2 ?a3 ?l3 ?c3 ?k3 ?a4 ?l4 ?c4 ?k4 ?a5 ?l5 ?c5 ?k5 ?a6 ?l6 ?c6 ?k6 ?a7 ?l7 ?c7 ?k7 ?a8 ?l8 ?c8 ?k8 ?a9 ?l9 ?c9 ?k9 ?a10 ?l10 ?c10 ?k10 ?a11 ?l11 ?c11 ?k11 ?a12 ?l12 ?c12 ?k12 ?a13 ?l13 ?c13 ?k13 ?a14 ?l14 ?c14 ?k14 ?a15 ?l15 ?c15 ?k15 ?a16 ?l16 ?c16 ?k16 ?a17 ?l17 ?c17 ?k17 ?a18 ?l18 ?c18 ?k18 ?a19 ?l19 ?c19 ?k19 ?a20 ?l20 ?c20 ?k20 ?a21 ?l21 ?c21 ?k21 ?a22 ?l22 ?c22 ?k22 ?a23 ?l23 ?c23 ?k23 ?a24 ?l24 ?c24 ?k24 ?a25 ?l25 ?c25 ?k25 ?a26 ?l26 ?c26 ?k26 ?a27 ?l27 ?c27 ?k27 ?a28 ?l28 ?c28 ?k28 ?a29 ?l29 ?c29 ?k29 ?a30 ?l30 ?c30 ?k30 ?q_MAX_LETTERS ?q_MAX_WORD ?q_MAX_ROW ?q_MOST_POWER ?q_MOST_MULTIPLIED ?z_abs ?z_all ?z_bool ?z_int ?z_isinstance ?z_len ?z_list ?z_max ?z_min ?z_range ?z_tuple
    (case a1 => k_is)
    (case l1 => k_is)
    (case c1 => k_is)
    (case k1 => k_is)
    (case a2 => k_is)
    (case l2 => k_is)
    (case c2 => k_is)
    (case k2 => k_is)
    (case a3 => k_is)
    (case l3 => k_is)
    (case c3 => k_is)
    (case k3 => k_is)
    (case a4 => k_is)
    (case l4 => k_is)
    (case c4 => k_is)
    (case k4 => k_is)
    (case a5 => k_is)
    (case l5 => k_is)
    (case c5 => k_is)
    (case k5 => k_is)
    (case a6 => k_is)
    (case l6 => k_is)
    (case c6 => k_is)
    (case k6 => k_is)
    (case a7 => k_is)
    (case l7 => k_is)
    (case c7 => k_is)
    (case k7 => k_is)
    (case a8 => k_is)
    (case l8 => k_is)
    (case c8 => k_is)
    (case k8 => k_is)
    (case a9 => k_is)
    (case l9 => k_is)
    (case c9 => k_is)
    (case k9 => k_is)
    (case a10 => k_is)
    (case l10 => k_is)
    (case c10 => k_is)
    (case k10 => k_is)
    (case a11 => k_is)
    (case l11 => k_is)
    (case c11 => k_is)
    (case k11 => k_is)
    (case a12 => k_is)
    (case l12 => k_is)
    (case c12 => k_is)
    (case k12 => k_is)
    (case a13 => k_is)
    (case l13 => k_is)
    (case c13 => k_is)
    (case k13 => k_is)
    (case a14 => k_is)
    (case l14 => k_is)
    (case c14 => k_is)
    (case k14 => k_is)
    (case a15 => k_is)
    (case l15 => k_is)
    (case c15 => k_is)
    (case k15 => k_is)
    (case a16 => k_is)
    (case l16 => k_is)
    (case c16 => k_is)
    (case k16 => k_is)
    (case a17 => k_is)
    (case l17 => k_is)
    (case c17 => k_is)
    (case k17 => k_is)
    (case a18 => k_is)
    (case l18 => k_is)
    (case c18 => k_is)
    (case k18 => k_is)
    (case a19 => k_is)
    (case l19 => k_is)
    (case c19 => k_is)
    (case k19 => k_is)
    (case a20 => k_is)
    (case l20 => k_is)
    (case c20 => k_is)
    (case k20 => k_is)
    (case a21 => k_is)
    (case l21 => k_is)
    (case c21 => k_is)
    (case k21 => k_is)
    (case a22 => k_is)
    (case l22 => k_is)
    (case c22 => k_is)
    (case k22 => k_is)
    (case a23 => k_is)
    (case l23 => k_is)
    (case c23 => k_is)
    (case k23 => k_is)
    (case a24 => k_is)
    (case l24 => k_is)
    (case c24 => k_is)
    (case k24 => k_is)
    (case a25 => k_is)
    (case l25 => k_is)
    (case c25 => k_is)
    (case k25 => k_is)
    (case a26 => k_is)
    (case l26 => k_is)
    (case c26 => k_is)
    (case k26 => k_is)
    (case a27 => k_is)
    (case l27 => k_is)
    (case c27 => k_is)
    (case k27 => k_is)
    (case a28 => k_is)
    (case l28 => k_is)
    (case c28 => k_is)
    (case k28 => k_is)
    (case a29 => k_is)
    (case l29 => k_is)
    (case c29 => k_is)
    (case k29 => k_is)
    (case a30 => k_is)
    (case l30 => k_is)
    (case c30 => k_is)
    (case k30 => k_is)
    (case q_MAX_LETTERS => k_is)
    (case q_MAX_WORD => k_is)
    (case q_MAX_ROW => k_is)
    (case q_MOST_POWER => k_is)
    (case q_MOST_MULTIPLIED => k_is)
    (case z_abs => k_is)
    (case z_all => k_is)
    (case z_bool => k_is)
    (case z_int => k_is)
    (case z_isinstance => k_is)
    (case z_len => k_is)
    (case z_list => k_is)
    (case z_max => k_is)
    (case z_min => k_is)
    (case z_range => k_is)
    (case z_tuple => k_is)
