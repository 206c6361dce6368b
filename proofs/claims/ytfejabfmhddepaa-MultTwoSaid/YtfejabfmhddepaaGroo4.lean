/- Tables: roots.Begin, roots.Rounds, and the reference's. Written by wip/tools/mk_tables6.py. The reference's Begin and Rounds; the tables' numbers are the roots. Written by wip/tools/mk_rtab6.py. -/
import Derived.Test.YtfejabfmhddepaaGroo3
import Derived.Test.YtfejabfmhddepaaRegion3
namespace Go.Proofs.Ytfejabfmhddepaa
open Go.RowKit
set_option linter.unusedVariables false
set_option maxRecDepth 100000

/-- a table of n numbers behind k rounds -/
def tabU (f : Nat → Nat) (n k : Nat) : Array Value := ((List.range n).map fun i => Value.int .u64 (((if i < k then f i else 0 : Nat)) : Int)).toArray
theorem tabU_size (f : Nat → Nat) (n k : Nat) : (tabU f n k).size = n := by simp [tabU]
theorem tabU_get (f : Nat → Nat) (n k i : Nat) (h : i < n) : (tabU f n k)[i]? = some (.int .u64 (((if i < k then f i else 0 : Nat)) : Int)) := by
  simp [tabU, h]
theorem tabU_step (f : Nat → Nat) (n k : Nat) (h : k < n) : (tabU f n k).setIfInBounds k (.int .u64 ((f k : Nat) : Int)) = tabU f n (k + 1) := by
  apply Array.ext
  · simp [tabU_size]
  · intro i h1 h2
    have hi : i < n := by simpa [tabU_size] using h1
    have e1 := tabU_get f n (k + 1) i hi
    rw [Array.getElem?_eq_getElem h2] at e1
    injection e1 with e1
    rw [e1, Array.getElem_setIfInBounds (by simpa [tabU_size] using hi)]
    by_cases e : k = i
    · subst e; simp
    · rw [if_neg e]
      have e2 := tabU_get f n k i hi
      rw [Array.getElem?_eq_getElem (by simpa [tabU_size] using hi)] at e2
      injection e2 with e2
      rw [e2]
      by_cases g : i < k
      · rw [if_pos g, if_pos (by omega)]
      · rw [if_neg g, if_neg (by omega)]
theorem tabU_one (f : Nat → Nat) (n k : Nat) : (tabU f n k).all (·.oneCell') = true := by
  simp [tabU, Value.oneCell']
theorem tabU_zero (f : Nat → Nat) (n : Nat) : tabU f n 0 = (List.replicate n (Value.int .u64 0)).toArray := by
  unfold tabU
  congr 1
  apply List.ext_getElem (by simp)
  intro i h1 h2
  simp
theorem zero_tab (T : TypeId) (f : Nat → Nat) (n : Nat) (h : (Try.prog.info? T).map (fun i => (i.zero, i.size)) = some (some (.agg (tabU f n 0)), n)) (u : World) : (zeroValue T).run Try.prog u = .ok (.agg (tabU f n 0)) u := by
  cases hi : Try.prog.info? T with
  | none => rw [hi] at h; cases h
  | some i =>
    rw [hi] at h
    simp at h
    simp [zeroValue, typeInfo, hi, h.1]

theorem P100_take {n : Nat} (h : n ≤ 100) : (P100.take n).length = n := by rw [List.length_take, P100_len]; omega
theorem P100_getD_lt {k n : Nat} (h : k < n) (hn : n ≤ 100) : (P100.take n).getD k 0 < 542 := by
  have hk : k < (P100.take n).length := by rw [P100_take hn]; exact h
  have e : (P100.take n).getD k 0 = (P100.take n)[k] := by simp [List.getD, List.getElem?_eq_getElem hk]
  rw [e]
  exact P100_lt _ (List.mem_of_mem_take (List.getElem_mem hk))

def PrimesOwn (w : World) (K : Nat) (e : Ending) (w' : World) : Prop :=
  ∃ A c, e = .returned (.slice A K c) ∧ Uo 24 w' w.heap.size (.slice A K c) (P100.take K) ∧ Below w.heap.size w w'
theorem primes_own {w w' : World} {e : Ending} {n : Int} {K : Nat} (hK : clampN n = K) (h : ∃ v, e = .returned v ∧ Uo 24 w' w.heap.size v (P100.take (clampN n)) ∧ Below w.heap.size w w') : PrimesOwn w K e w' := by
  obtain ⟨v, rfl, ho, hb⟩ := h
  have hl : (P100.take K).length = K := P100_take (by rw [← hK]; unfold clampN; omega)
  rw [hK] at ho
  obtain ⟨A, c, rfl, hu, -⟩ := ho.form
  rw [hl] at ho
  exact ⟨A, c, by rw [hl], ho, hb⟩

/-- the roots of the first primes -/
def fB (i : Nat) : Nat := sqv false (P100.getD i 0)
def fR (i : Nat) : Nat := sqv true (P100.getD i 0)

end Go.Proofs.Ytfejabfmhddepaa

namespace Go.Proofs.Ytfejabfmhddepaa
open Go.RowKit
set_option linter.unusedVariables false
set_option maxRecDepth 100000

def tabL (l : List Nat) : Array Value := (l.map fun (x : Nat) => Value.int .u64 (x : Int)).toArray
theorem tabL_one (l : List Nat) : (tabL l).all (·.oneCell') = true := by
  simp [tabL, Value.oneCell']
theorem tabL_tabU (f : Nat → Nat) (n : Nat) (l : List Nat) (hl : l.length = n) (h : ∀ i, i < n → f i = l.getD i 0) : tabL l = tabU f n n := by
  subst hl
  unfold tabL tabU
  congr 1
  apply List.ext_getElem (by simp)
  intro i h1 h2
  have hi : i < l.length := by simpa using h1
  have e : f i = l[i] := by rw [h i hi]; simp [List.getD, List.getElem?_eq_getElem hi]
  simp [hi, e]

def okRoot (c : Bool) (p y v : Nat) : Bool := Nat.blt p 4294967296 && Nat.ble (pw c y) (p * sc c) && Nat.blt (p * sc c) (pw c (y + 1)) && Nat.beq (y % 18446744073709551616) v
theorem okRoot_is {c : Bool} {p y v : Nat} (h : okRoot c p y v = true) : sqv c p = v := by
  simp only [okRoot, Bool.and_eq_true] at h
  obtain ⟨⟨⟨h1, h2⟩, h3⟩, h4⟩ := h
  have k1 : p < 4294967296 := by simp [Nat.blt, Nat.ble_eq] at h1; omega
  have k2 : pw c y ≤ p * sc c := by simpa [Nat.ble_eq] using h2
  have k3 : p * sc c < pw c (y + 1) := by simp [Nat.blt, Nat.ble_eq] at h3; omega
  have k4 := Nat.eq_of_beq_eq_true h4
  unfold sqv
  rw [if_pos k1, rt_eq c k1 k2 k3, k4]

def yB : List Nat := [26087635650665564424, 31950697969885030203, 41248173712355948587, 48805497317890012913, 61180928696206656209, 66510681623121259551, 76057874264641092971, 80407493254657745273]
def yR : List Nat := [23241441160490167842, 26604808713878332877, 31543488660544240431, 35287351959220771772, 41025191555757552952, 43374469216020582425, 47431773444313272219, 49223322299838333208, 52460086356995146306, 56674242196778545086, 57948244932766773900, 61468643694135456994, 63608380943893236079, 64626287408284341937, 66571091106846937653, 69291241975837173396, 71813108563482594002, 72615556083564357091, 74922338351982630325, 76384605279477341285, 77095200552867529333, 79152035218479047811, 80466001307761769428, 82360010132597855157, 84757271453788200875, 85906662539289440784, 86470001012957192511, 87575168524888248036, 88117443448470540226, 89182409882623190821, 92723033081372705391, 93686458245878541936, 95095488024300105724, 95556006044611561766, 97794660939065469677, 98230277650290947039, 99514478923103560670, 100766364611844223656, 101583977345534766822, 102786266195516601659, 103961068102722061156, 104346826991781163009, 106234157551817627537, 106603670640207904304, 107335108066752287256, 107697117917222381840, 109819772810290077738, 111863398698143437240, 112528278492720320712, 112857792170093030227, 113511107980111571865, 114477206417490790568, 114795642568024087139, 116361942610802215627, 117281838038729876339, 118187525164200278179, 119079540232616391420, 119373928427484032864, 120248493880617511794, 120824543361758411244, 121110519679094562344, 122520547622920568297, 124441674862916172053, 124979807718728684331, 125247145020423037340, 125778422408467759623, 127603441353585912606, 128369846764518166904, 129627222056361226170, 129875788766833580198, 130370087684295691694, 131104582549941012251, 132071287192121802116, 132787134709014930579, 133495346155087314620, 133963344184962190668, 134659270149180113590, 135576127461610847786, 136029942151059536620, 136928597060811708439]
def vB : List Nat := [7640891576956012808, 13503953896175478587, 4354685564936845355, 11912009170470909681, 5840696475078001361, 11170449401992604703, 2270897969802886507, 6620516959819538809]
def vR : List Nat := [4794697086780616226, 8158064640168781261, 13096744586834688815, 16840607885511220156, 4131703408338449720, 6480981068601479193, 10538285296894168987, 12329834152419229976, 15566598209576043074, 1334009975649890238, 2608012711638119052, 6128411473006802146, 8268148722764581231, 9286055187155687089, 11230858885718282805, 13951009754708518548, 16472876342353939154, 17275323862435702243, 1135362057144423861, 2597628984639134821, 3308224258029322869, 5365058923640841347, 6679025012923562964, 8573033837759648693, 10970295158949994411, 12119686244451234320, 12683024718118986047, 13788192230050041572, 14330467153632333762, 15395433587784984357, 489312712824947311, 1452737877330783856, 2861767655752347644, 3322285676063803686, 5560940570517711597, 5996557281743188959, 7280758554555802590, 8532644243296465576, 9350256976987008742, 10552545826968843579, 11727347734174303076, 12113106623233404929, 14000437183269869457, 14369950271660146224, 15101387698204529176, 15463397548674623760, 17586052441742319658, 1182934255886127544, 1847814050463011016, 2177327727835720531, 2830643537854262169, 3796741975233480872, 4115178125766777443, 5681478168544905931, 6601373596472566643, 7507060721942968483, 8399075790359081724, 8693463985226723168, 9568029438360202098, 10144078919501101548, 10430055236837252648, 11840083180663258601, 13761210420658862357, 14299343276471374635, 14566680578165727644, 15097957966210449927, 16922976911328602910, 17689382322260857208, 500013540394364858, 748580250866718886, 1242879168328830382, 1977374033974150939, 2944078676154940804, 3659926193048069267, 4368137639120453308, 4836135668995329356, 5532061633213252278, 6448918945643986474, 6902733635092675308, 7801388544844847127]
theorem okB : (List.range 8).all (fun i => okRoot false (P100.getD i 0) (yB.getD i 0) (vB.getD i 0)) = true := by decide +kernel
theorem okR : (List.range 80).all (fun i => okRoot true (P100.getD i 0) (yR.getD i 0) (vR.getD i 0)) = true := by decide +kernel
theorem fB_is (i : Nat) (h : i < 8) : fB i = vB.getD i 0 := okRoot_is (List.all_eq_true.1 okB i (List.mem_range.2 h))
theorem fR_is (i : Nat) (h : i < 80) : fR i = vR.getD i 0 := okRoot_is (List.all_eq_true.1 okR i (List.mem_range.2 h))
theorem tabB : tabL vB = tabU fB 8 8 := tabL_tabU fB 8 vB rfl fB_is
theorem tabR : tabL vR = tabU fR 80 80 := tabL_tabU fR 80 vR rfl fR_is

theorem wpList_runs {P : Program} {ops : Array Oper} {rest : List Oper} {o : Oper} {a : Act} {w : World} {Q : Exit → Act → World → Prop} (hgd : o.guard = none) (v : Value)
    (hrun : (execOp (Act.eval a) o).run P w = .ok (.value v) w) (h : wpList P ops Q rest (a.put o.dst v) w) : wpList P ops Q (o :: rest) a w := by
  refine wpList_plain hgd fun K hK => ?_
  unfold Oper.wp
  rw [hrun]
  exact hK _ _ h

end Go.Proofs.Ytfejabfmhddepaa

