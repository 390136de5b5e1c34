/- A part of the proof: an interpreter of the model's own code on partly known states, and that what it answers is what the program answers. No condition of its own. -/
import Derived.Test.YtacflaaahanhgaaDoorA9RuleSegsR0
import Derived.Test.YtacflaaahanhgaaDoorA9RuleSegsR1
import Derived.Test.YtacflaaahanhgaaDoorA9RuleSegsR2
import Derived.Test.YtacflaaahanhgaaDoorA9RuleSegsR3
import Derived.Test.YtacflaaahanhgaaDoorA9RuleSegsR4
import Derived.Test.YtacflaaahanhgaaDoorA9RuleSegsR5
import Derived.Test.YtacflaaahanhgaaDoorA9RuleSegsR6
import Derived.Test.YtacflaaahanhgaaDoorA9RuleSegsR7
import Derived.Test.YtacflaaahanhgaaDoorA9RuleSegsR8
import Derived.Test.YtacflaaahanhgaaDoorA9RuleSegsR9
import Derived.Test.YtacflaaahanhgaaDoorA9RuleSegsR10
import Derived.Test.YtacflaaahanhgaaDoorA9RuleSegsR11
import Derived.Test.YtacflaaahanhgaaDoorA9RuleSegsR12
import Derived.Test.YtacflaaahanhgaaDoorA9RuleSegsR13
import Derived.Test.YtacflaaahanhgaaDoorA9RuleSegsR14
import Derived.Test.YtacflaaahanhgaaDoorA9RuleSegsR15
set_option maxRecDepth 100000
set_option linter.unusedVariables false
namespace Go.Proofs.YtacflaaahanhgaaDoor.ruleSegs
open Go Go.AX Go.Proofs Go.Proofs.YtacflaaahanhgaaDoor
theorem allRuns : ∀ i, i < 4092 → runI i = true := by
  intro i hi
  by_cases h2046 : i < 2046
  · by_cases h1023 : i < 1023
    · by_cases h506 : i < 506
      · by_cases h253 : i < 253
        · by_cases h121 : i < 121
          · by_cases h55 : i < 55
            · by_cases h22 : i < 22
              · by_cases h11 : i < 11
                · exact allN_at (r0 ) i (by omega) (by omega)
                · exact allN_at (r11 ) i (by omega) (by omega)
              · by_cases h33 : i < 33
                · exact allN_at (r22 ) i (by omega) (by omega)
                · by_cases h44 : i < 44
                  · exact allN_at (r33 ) i (by omega) (by omega)
                  · exact allN_at (r44 ) i (by omega) (by omega)
            · by_cases h88 : i < 88
              · by_cases h66 : i < 66
                · exact allN_at (r55 ) i (by omega) (by omega)
                · by_cases h77 : i < 77
                  · exact allN_at (r66 ) i (by omega) (by omega)
                  · exact allN_at (r77 ) i (by omega) (by omega)
              · by_cases h99 : i < 99
                · exact allN_at (r88 ) i (by omega) (by omega)
                · by_cases h110 : i < 110
                  · exact allN_at (r99 ) i (by omega) (by omega)
                  · exact allN_at (r110 ) i (by omega) (by omega)
          · by_cases h187 : i < 187
            · by_cases h154 : i < 154
              · by_cases h132 : i < 132
                · exact allN_at (r121 ) i (by omega) (by omega)
                · by_cases h143 : i < 143
                  · exact allN_at (r132 ) i (by omega) (by omega)
                  · exact allN_at (r143 ) i (by omega) (by omega)
              · by_cases h165 : i < 165
                · exact allN_at (r154 ) i (by omega) (by omega)
                · by_cases h176 : i < 176
                  · exact allN_at (r165 ) i (by omega) (by omega)
                  · exact allN_at (r176 ) i (by omega) (by omega)
            · by_cases h220 : i < 220
              · by_cases h198 : i < 198
                · exact allN_at (r187 ) i (by omega) (by omega)
                · by_cases h209 : i < 209
                  · exact allN_at (r198 ) i (by omega) (by omega)
                  · exact allN_at (r209 ) i (by omega) (by omega)
              · by_cases h231 : i < 231
                · exact allN_at (r220 ) i (by omega) (by omega)
                · by_cases h242 : i < 242
                  · exact allN_at (r231 ) i (by omega) (by omega)
                  · exact allN_at (r242 ) i (by omega) (by omega)
        · by_cases h374 : i < 374
          · by_cases h308 : i < 308
            · by_cases h275 : i < 275
              · by_cases h264 : i < 264
                · exact allN_at (r253 ) i (by omega) (by omega)
                · exact allN_at (r264 ) i (by omega) (by omega)
              · by_cases h286 : i < 286
                · exact allN_at (r275 ) i (by omega) (by omega)
                · by_cases h297 : i < 297
                  · exact allN_at (r286 ) i (by omega) (by omega)
                  · exact allN_at (r297 ) i (by omega) (by omega)
            · by_cases h341 : i < 341
              · by_cases h319 : i < 319
                · exact allN_at (r308 ) i (by omega) (by omega)
                · by_cases h330 : i < 330
                  · exact allN_at (r319 ) i (by omega) (by omega)
                  · exact allN_at (r330 ) i (by omega) (by omega)
              · by_cases h352 : i < 352
                · exact allN_at (r341 ) i (by omega) (by omega)
                · by_cases h363 : i < 363
                  · exact allN_at (r352 ) i (by omega) (by omega)
                  · exact allN_at (r363 ) i (by omega) (by omega)
          · by_cases h440 : i < 440
            · by_cases h407 : i < 407
              · by_cases h385 : i < 385
                · exact allN_at (r374 ) i (by omega) (by omega)
                · by_cases h396 : i < 396
                  · exact allN_at (r385 ) i (by omega) (by omega)
                  · exact allN_at (r396 ) i (by omega) (by omega)
              · by_cases h418 : i < 418
                · exact allN_at (r407 ) i (by omega) (by omega)
                · by_cases h429 : i < 429
                  · exact allN_at (r418 ) i (by omega) (by omega)
                  · exact allN_at (r429 ) i (by omega) (by omega)
            · by_cases h473 : i < 473
              · by_cases h451 : i < 451
                · exact allN_at (r440 ) i (by omega) (by omega)
                · by_cases h462 : i < 462
                  · exact allN_at (r451 ) i (by omega) (by omega)
                  · exact allN_at (r462 ) i (by omega) (by omega)
              · by_cases h484 : i < 484
                · exact allN_at (r473 ) i (by omega) (by omega)
                · by_cases h495 : i < 495
                  · exact allN_at (r484 ) i (by omega) (by omega)
                  · exact allN_at (r495 ) i (by omega) (by omega)
      · by_cases h759 : i < 759
        · by_cases h627 : i < 627
          · by_cases h561 : i < 561
            · by_cases h528 : i < 528
              · by_cases h517 : i < 517
                · exact allN_at (r506 ) i (by omega) (by omega)
                · exact allN_at (r517 ) i (by omega) (by omega)
              · by_cases h539 : i < 539
                · exact allN_at (r528 ) i (by omega) (by omega)
                · by_cases h550 : i < 550
                  · exact allN_at (r539 ) i (by omega) (by omega)
                  · exact allN_at (r550 ) i (by omega) (by omega)
            · by_cases h594 : i < 594
              · by_cases h572 : i < 572
                · exact allN_at (r561 ) i (by omega) (by omega)
                · by_cases h583 : i < 583
                  · exact allN_at (r572 ) i (by omega) (by omega)
                  · exact allN_at (r583 ) i (by omega) (by omega)
              · by_cases h605 : i < 605
                · exact allN_at (r594 ) i (by omega) (by omega)
                · by_cases h616 : i < 616
                  · exact allN_at (r605 ) i (by omega) (by omega)
                  · exact allN_at (r616 ) i (by omega) (by omega)
          · by_cases h693 : i < 693
            · by_cases h660 : i < 660
              · by_cases h638 : i < 638
                · exact allN_at (r627 ) i (by omega) (by omega)
                · by_cases h649 : i < 649
                  · exact allN_at (r638 ) i (by omega) (by omega)
                  · exact allN_at (r649 ) i (by omega) (by omega)
              · by_cases h671 : i < 671
                · exact allN_at (r660 ) i (by omega) (by omega)
                · by_cases h682 : i < 682
                  · exact allN_at (r671 ) i (by omega) (by omega)
                  · exact allN_at (r682 ) i (by omega) (by omega)
            · by_cases h726 : i < 726
              · by_cases h704 : i < 704
                · exact allN_at (r693 ) i (by omega) (by omega)
                · by_cases h715 : i < 715
                  · exact allN_at (r704 ) i (by omega) (by omega)
                  · exact allN_at (r715 ) i (by omega) (by omega)
              · by_cases h737 : i < 737
                · exact allN_at (r726 ) i (by omega) (by omega)
                · by_cases h748 : i < 748
                  · exact allN_at (r737 ) i (by omega) (by omega)
                  · exact allN_at (r748 ) i (by omega) (by omega)
        · by_cases h891 : i < 891
          · by_cases h825 : i < 825
            · by_cases h792 : i < 792
              · by_cases h770 : i < 770
                · exact allN_at (r759 ) i (by omega) (by omega)
                · by_cases h781 : i < 781
                  · exact allN_at (r770 ) i (by omega) (by omega)
                  · exact allN_at (r781 ) i (by omega) (by omega)
              · by_cases h803 : i < 803
                · exact allN_at (r792 ) i (by omega) (by omega)
                · by_cases h814 : i < 814
                  · exact allN_at (r803 ) i (by omega) (by omega)
                  · exact allN_at (r814 ) i (by omega) (by omega)
            · by_cases h858 : i < 858
              · by_cases h836 : i < 836
                · exact allN_at (r825 ) i (by omega) (by omega)
                · by_cases h847 : i < 847
                  · exact allN_at (r836 ) i (by omega) (by omega)
                  · exact allN_at (r847 ) i (by omega) (by omega)
              · by_cases h869 : i < 869
                · exact allN_at (r858 ) i (by omega) (by omega)
                · by_cases h880 : i < 880
                  · exact allN_at (r869 ) i (by omega) (by omega)
                  · exact allN_at (r880 ) i (by omega) (by omega)
          · by_cases h957 : i < 957
            · by_cases h924 : i < 924
              · by_cases h902 : i < 902
                · exact allN_at (r891 ) i (by omega) (by omega)
                · by_cases h913 : i < 913
                  · exact allN_at (r902 ) i (by omega) (by omega)
                  · exact allN_at (r913 ) i (by omega) (by omega)
              · by_cases h935 : i < 935
                · exact allN_at (r924 ) i (by omega) (by omega)
                · by_cases h946 : i < 946
                  · exact allN_at (r935 ) i (by omega) (by omega)
                  · exact allN_at (r946 ) i (by omega) (by omega)
            · by_cases h990 : i < 990
              · by_cases h968 : i < 968
                · exact allN_at (r957 ) i (by omega) (by omega)
                · by_cases h979 : i < 979
                  · exact allN_at (r968 ) i (by omega) (by omega)
                  · exact allN_at (r979 ) i (by omega) (by omega)
              · by_cases h1001 : i < 1001
                · exact allN_at (r990 ) i (by omega) (by omega)
                · by_cases h1012 : i < 1012
                  · exact allN_at (r1001 ) i (by omega) (by omega)
                  · exact allN_at (r1012 ) i (by omega) (by omega)
    · by_cases h1529 : i < 1529
      · by_cases h1276 : i < 1276
        · by_cases h1144 : i < 1144
          · by_cases h1078 : i < 1078
            · by_cases h1045 : i < 1045
              · by_cases h1034 : i < 1034
                · exact allN_at (r1023 ) i (by omega) (by omega)
                · exact allN_at (r1034 ) i (by omega) (by omega)
              · by_cases h1056 : i < 1056
                · exact allN_at (r1045 ) i (by omega) (by omega)
                · by_cases h1067 : i < 1067
                  · exact allN_at (r1056 ) i (by omega) (by omega)
                  · exact allN_at (r1067 ) i (by omega) (by omega)
            · by_cases h1111 : i < 1111
              · by_cases h1089 : i < 1089
                · exact allN_at (r1078 ) i (by omega) (by omega)
                · by_cases h1100 : i < 1100
                  · exact allN_at (r1089 ) i (by omega) (by omega)
                  · exact allN_at (r1100 ) i (by omega) (by omega)
              · by_cases h1122 : i < 1122
                · exact allN_at (r1111 ) i (by omega) (by omega)
                · by_cases h1133 : i < 1133
                  · exact allN_at (r1122 ) i (by omega) (by omega)
                  · exact allN_at (r1133 ) i (by omega) (by omega)
          · by_cases h1210 : i < 1210
            · by_cases h1177 : i < 1177
              · by_cases h1155 : i < 1155
                · exact allN_at (r1144 ) i (by omega) (by omega)
                · by_cases h1166 : i < 1166
                  · exact allN_at (r1155 ) i (by omega) (by omega)
                  · exact allN_at (r1166 ) i (by omega) (by omega)
              · by_cases h1188 : i < 1188
                · exact allN_at (r1177 ) i (by omega) (by omega)
                · by_cases h1199 : i < 1199
                  · exact allN_at (r1188 ) i (by omega) (by omega)
                  · exact allN_at (r1199 ) i (by omega) (by omega)
            · by_cases h1243 : i < 1243
              · by_cases h1221 : i < 1221
                · exact allN_at (r1210 ) i (by omega) (by omega)
                · by_cases h1232 : i < 1232
                  · exact allN_at (r1221 ) i (by omega) (by omega)
                  · exact allN_at (r1232 ) i (by omega) (by omega)
              · by_cases h1254 : i < 1254
                · exact allN_at (r1243 ) i (by omega) (by omega)
                · by_cases h1265 : i < 1265
                  · exact allN_at (r1254 ) i (by omega) (by omega)
                  · exact allN_at (r1265 ) i (by omega) (by omega)
        · by_cases h1397 : i < 1397
          · by_cases h1331 : i < 1331
            · by_cases h1298 : i < 1298
              · by_cases h1287 : i < 1287
                · exact allN_at (r1276 ) i (by omega) (by omega)
                · exact allN_at (r1287 ) i (by omega) (by omega)
              · by_cases h1309 : i < 1309
                · exact allN_at (r1298 ) i (by omega) (by omega)
                · by_cases h1320 : i < 1320
                  · exact allN_at (r1309 ) i (by omega) (by omega)
                  · exact allN_at (r1320 ) i (by omega) (by omega)
            · by_cases h1364 : i < 1364
              · by_cases h1342 : i < 1342
                · exact allN_at (r1331 ) i (by omega) (by omega)
                · by_cases h1353 : i < 1353
                  · exact allN_at (r1342 ) i (by omega) (by omega)
                  · exact allN_at (r1353 ) i (by omega) (by omega)
              · by_cases h1375 : i < 1375
                · exact allN_at (r1364 ) i (by omega) (by omega)
                · by_cases h1386 : i < 1386
                  · exact allN_at (r1375 ) i (by omega) (by omega)
                  · exact allN_at (r1386 ) i (by omega) (by omega)
          · by_cases h1463 : i < 1463
            · by_cases h1430 : i < 1430
              · by_cases h1408 : i < 1408
                · exact allN_at (r1397 ) i (by omega) (by omega)
                · by_cases h1419 : i < 1419
                  · exact allN_at (r1408 ) i (by omega) (by omega)
                  · exact allN_at (r1419 ) i (by omega) (by omega)
              · by_cases h1441 : i < 1441
                · exact allN_at (r1430 ) i (by omega) (by omega)
                · by_cases h1452 : i < 1452
                  · exact allN_at (r1441 ) i (by omega) (by omega)
                  · exact allN_at (r1452 ) i (by omega) (by omega)
            · by_cases h1496 : i < 1496
              · by_cases h1474 : i < 1474
                · exact allN_at (r1463 ) i (by omega) (by omega)
                · by_cases h1485 : i < 1485
                  · exact allN_at (r1474 ) i (by omega) (by omega)
                  · exact allN_at (r1485 ) i (by omega) (by omega)
              · by_cases h1507 : i < 1507
                · exact allN_at (r1496 ) i (by omega) (by omega)
                · by_cases h1518 : i < 1518
                  · exact allN_at (r1507 ) i (by omega) (by omega)
                  · exact allN_at (r1518 ) i (by omega) (by omega)
      · by_cases h1782 : i < 1782
        · by_cases h1650 : i < 1650
          · by_cases h1584 : i < 1584
            · by_cases h1551 : i < 1551
              · by_cases h1540 : i < 1540
                · exact allN_at (r1529 ) i (by omega) (by omega)
                · exact allN_at (r1540 ) i (by omega) (by omega)
              · by_cases h1562 : i < 1562
                · exact allN_at (r1551 ) i (by omega) (by omega)
                · by_cases h1573 : i < 1573
                  · exact allN_at (r1562 ) i (by omega) (by omega)
                  · exact allN_at (r1573 ) i (by omega) (by omega)
            · by_cases h1617 : i < 1617
              · by_cases h1595 : i < 1595
                · exact allN_at (r1584 ) i (by omega) (by omega)
                · by_cases h1606 : i < 1606
                  · exact allN_at (r1595 ) i (by omega) (by omega)
                  · exact allN_at (r1606 ) i (by omega) (by omega)
              · by_cases h1628 : i < 1628
                · exact allN_at (r1617 ) i (by omega) (by omega)
                · by_cases h1639 : i < 1639
                  · exact allN_at (r1628 ) i (by omega) (by omega)
                  · exact allN_at (r1639 ) i (by omega) (by omega)
          · by_cases h1716 : i < 1716
            · by_cases h1683 : i < 1683
              · by_cases h1661 : i < 1661
                · exact allN_at (r1650 ) i (by omega) (by omega)
                · by_cases h1672 : i < 1672
                  · exact allN_at (r1661 ) i (by omega) (by omega)
                  · exact allN_at (r1672 ) i (by omega) (by omega)
              · by_cases h1694 : i < 1694
                · exact allN_at (r1683 ) i (by omega) (by omega)
                · by_cases h1705 : i < 1705
                  · exact allN_at (r1694 ) i (by omega) (by omega)
                  · exact allN_at (r1705 ) i (by omega) (by omega)
            · by_cases h1749 : i < 1749
              · by_cases h1727 : i < 1727
                · exact allN_at (r1716 ) i (by omega) (by omega)
                · by_cases h1738 : i < 1738
                  · exact allN_at (r1727 ) i (by omega) (by omega)
                  · exact allN_at (r1738 ) i (by omega) (by omega)
              · by_cases h1760 : i < 1760
                · exact allN_at (r1749 ) i (by omega) (by omega)
                · by_cases h1771 : i < 1771
                  · exact allN_at (r1760 ) i (by omega) (by omega)
                  · exact allN_at (r1771 ) i (by omega) (by omega)
        · by_cases h1914 : i < 1914
          · by_cases h1848 : i < 1848
            · by_cases h1815 : i < 1815
              · by_cases h1793 : i < 1793
                · exact allN_at (r1782 ) i (by omega) (by omega)
                · by_cases h1804 : i < 1804
                  · exact allN_at (r1793 ) i (by omega) (by omega)
                  · exact allN_at (r1804 ) i (by omega) (by omega)
              · by_cases h1826 : i < 1826
                · exact allN_at (r1815 ) i (by omega) (by omega)
                · by_cases h1837 : i < 1837
                  · exact allN_at (r1826 ) i (by omega) (by omega)
                  · exact allN_at (r1837 ) i (by omega) (by omega)
            · by_cases h1881 : i < 1881
              · by_cases h1859 : i < 1859
                · exact allN_at (r1848 ) i (by omega) (by omega)
                · by_cases h1870 : i < 1870
                  · exact allN_at (r1859 ) i (by omega) (by omega)
                  · exact allN_at (r1870 ) i (by omega) (by omega)
              · by_cases h1892 : i < 1892
                · exact allN_at (r1881 ) i (by omega) (by omega)
                · by_cases h1903 : i < 1903
                  · exact allN_at (r1892 ) i (by omega) (by omega)
                  · exact allN_at (r1903 ) i (by omega) (by omega)
          · by_cases h1980 : i < 1980
            · by_cases h1947 : i < 1947
              · by_cases h1925 : i < 1925
                · exact allN_at (r1914 ) i (by omega) (by omega)
                · by_cases h1936 : i < 1936
                  · exact allN_at (r1925 ) i (by omega) (by omega)
                  · exact allN_at (r1936 ) i (by omega) (by omega)
              · by_cases h1958 : i < 1958
                · exact allN_at (r1947 ) i (by omega) (by omega)
                · by_cases h1969 : i < 1969
                  · exact allN_at (r1958 ) i (by omega) (by omega)
                  · exact allN_at (r1969 ) i (by omega) (by omega)
            · by_cases h2013 : i < 2013
              · by_cases h1991 : i < 1991
                · exact allN_at (r1980 ) i (by omega) (by omega)
                · by_cases h2002 : i < 2002
                  · exact allN_at (r1991 ) i (by omega) (by omega)
                  · exact allN_at (r2002 ) i (by omega) (by omega)
              · by_cases h2024 : i < 2024
                · exact allN_at (r2013 ) i (by omega) (by omega)
                · by_cases h2035 : i < 2035
                  · exact allN_at (r2024 ) i (by omega) (by omega)
                  · exact allN_at (r2035 ) i (by omega) (by omega)
  · by_cases h3069 : i < 3069
    · by_cases h2552 : i < 2552
      · by_cases h2299 : i < 2299
        · by_cases h2167 : i < 2167
          · by_cases h2101 : i < 2101
            · by_cases h2068 : i < 2068
              · by_cases h2057 : i < 2057
                · exact allN_at (r2046 ) i (by omega) (by omega)
                · exact allN_at (r2057 ) i (by omega) (by omega)
              · by_cases h2079 : i < 2079
                · exact allN_at (r2068 ) i (by omega) (by omega)
                · by_cases h2090 : i < 2090
                  · exact allN_at (r2079 ) i (by omega) (by omega)
                  · exact allN_at (r2090 ) i (by omega) (by omega)
            · by_cases h2134 : i < 2134
              · by_cases h2112 : i < 2112
                · exact allN_at (r2101 ) i (by omega) (by omega)
                · by_cases h2123 : i < 2123
                  · exact allN_at (r2112 ) i (by omega) (by omega)
                  · exact allN_at (r2123 ) i (by omega) (by omega)
              · by_cases h2145 : i < 2145
                · exact allN_at (r2134 ) i (by omega) (by omega)
                · by_cases h2156 : i < 2156
                  · exact allN_at (r2145 ) i (by omega) (by omega)
                  · exact allN_at (r2156 ) i (by omega) (by omega)
          · by_cases h2233 : i < 2233
            · by_cases h2200 : i < 2200
              · by_cases h2178 : i < 2178
                · exact allN_at (r2167 ) i (by omega) (by omega)
                · by_cases h2189 : i < 2189
                  · exact allN_at (r2178 ) i (by omega) (by omega)
                  · exact allN_at (r2189 ) i (by omega) (by omega)
              · by_cases h2211 : i < 2211
                · exact allN_at (r2200 ) i (by omega) (by omega)
                · by_cases h2222 : i < 2222
                  · exact allN_at (r2211 ) i (by omega) (by omega)
                  · exact allN_at (r2222 ) i (by omega) (by omega)
            · by_cases h2266 : i < 2266
              · by_cases h2244 : i < 2244
                · exact allN_at (r2233 ) i (by omega) (by omega)
                · by_cases h2255 : i < 2255
                  · exact allN_at (r2244 ) i (by omega) (by omega)
                  · exact allN_at (r2255 ) i (by omega) (by omega)
              · by_cases h2277 : i < 2277
                · exact allN_at (r2266 ) i (by omega) (by omega)
                · by_cases h2288 : i < 2288
                  · exact allN_at (r2277 ) i (by omega) (by omega)
                  · exact allN_at (r2288 ) i (by omega) (by omega)
        · by_cases h2420 : i < 2420
          · by_cases h2354 : i < 2354
            · by_cases h2321 : i < 2321
              · by_cases h2310 : i < 2310
                · exact allN_at (r2299 ) i (by omega) (by omega)
                · exact allN_at (r2310 ) i (by omega) (by omega)
              · by_cases h2332 : i < 2332
                · exact allN_at (r2321 ) i (by omega) (by omega)
                · by_cases h2343 : i < 2343
                  · exact allN_at (r2332 ) i (by omega) (by omega)
                  · exact allN_at (r2343 ) i (by omega) (by omega)
            · by_cases h2387 : i < 2387
              · by_cases h2365 : i < 2365
                · exact allN_at (r2354 ) i (by omega) (by omega)
                · by_cases h2376 : i < 2376
                  · exact allN_at (r2365 ) i (by omega) (by omega)
                  · exact allN_at (r2376 ) i (by omega) (by omega)
              · by_cases h2398 : i < 2398
                · exact allN_at (r2387 ) i (by omega) (by omega)
                · by_cases h2409 : i < 2409
                  · exact allN_at (r2398 ) i (by omega) (by omega)
                  · exact allN_at (r2409 ) i (by omega) (by omega)
          · by_cases h2486 : i < 2486
            · by_cases h2453 : i < 2453
              · by_cases h2431 : i < 2431
                · exact allN_at (r2420 ) i (by omega) (by omega)
                · by_cases h2442 : i < 2442
                  · exact allN_at (r2431 ) i (by omega) (by omega)
                  · exact allN_at (r2442 ) i (by omega) (by omega)
              · by_cases h2464 : i < 2464
                · exact allN_at (r2453 ) i (by omega) (by omega)
                · by_cases h2475 : i < 2475
                  · exact allN_at (r2464 ) i (by omega) (by omega)
                  · exact allN_at (r2475 ) i (by omega) (by omega)
            · by_cases h2519 : i < 2519
              · by_cases h2497 : i < 2497
                · exact allN_at (r2486 ) i (by omega) (by omega)
                · by_cases h2508 : i < 2508
                  · exact allN_at (r2497 ) i (by omega) (by omega)
                  · exact allN_at (r2508 ) i (by omega) (by omega)
              · by_cases h2530 : i < 2530
                · exact allN_at (r2519 ) i (by omega) (by omega)
                · by_cases h2541 : i < 2541
                  · exact allN_at (r2530 ) i (by omega) (by omega)
                  · exact allN_at (r2541 ) i (by omega) (by omega)
      · by_cases h2805 : i < 2805
        · by_cases h2673 : i < 2673
          · by_cases h2607 : i < 2607
            · by_cases h2574 : i < 2574
              · by_cases h2563 : i < 2563
                · exact allN_at (r2552 ) i (by omega) (by omega)
                · exact allN_at (r2563 ) i (by omega) (by omega)
              · by_cases h2585 : i < 2585
                · exact allN_at (r2574 ) i (by omega) (by omega)
                · by_cases h2596 : i < 2596
                  · exact allN_at (r2585 ) i (by omega) (by omega)
                  · exact allN_at (r2596 ) i (by omega) (by omega)
            · by_cases h2640 : i < 2640
              · by_cases h2618 : i < 2618
                · exact allN_at (r2607 ) i (by omega) (by omega)
                · by_cases h2629 : i < 2629
                  · exact allN_at (r2618 ) i (by omega) (by omega)
                  · exact allN_at (r2629 ) i (by omega) (by omega)
              · by_cases h2651 : i < 2651
                · exact allN_at (r2640 ) i (by omega) (by omega)
                · by_cases h2662 : i < 2662
                  · exact allN_at (r2651 ) i (by omega) (by omega)
                  · exact allN_at (r2662 ) i (by omega) (by omega)
          · by_cases h2739 : i < 2739
            · by_cases h2706 : i < 2706
              · by_cases h2684 : i < 2684
                · exact allN_at (r2673 ) i (by omega) (by omega)
                · by_cases h2695 : i < 2695
                  · exact allN_at (r2684 ) i (by omega) (by omega)
                  · exact allN_at (r2695 ) i (by omega) (by omega)
              · by_cases h2717 : i < 2717
                · exact allN_at (r2706 ) i (by omega) (by omega)
                · by_cases h2728 : i < 2728
                  · exact allN_at (r2717 ) i (by omega) (by omega)
                  · exact allN_at (r2728 ) i (by omega) (by omega)
            · by_cases h2772 : i < 2772
              · by_cases h2750 : i < 2750
                · exact allN_at (r2739 ) i (by omega) (by omega)
                · by_cases h2761 : i < 2761
                  · exact allN_at (r2750 ) i (by omega) (by omega)
                  · exact allN_at (r2761 ) i (by omega) (by omega)
              · by_cases h2783 : i < 2783
                · exact allN_at (r2772 ) i (by omega) (by omega)
                · by_cases h2794 : i < 2794
                  · exact allN_at (r2783 ) i (by omega) (by omega)
                  · exact allN_at (r2794 ) i (by omega) (by omega)
        · by_cases h2937 : i < 2937
          · by_cases h2871 : i < 2871
            · by_cases h2838 : i < 2838
              · by_cases h2816 : i < 2816
                · exact allN_at (r2805 ) i (by omega) (by omega)
                · by_cases h2827 : i < 2827
                  · exact allN_at (r2816 ) i (by omega) (by omega)
                  · exact allN_at (r2827 ) i (by omega) (by omega)
              · by_cases h2849 : i < 2849
                · exact allN_at (r2838 ) i (by omega) (by omega)
                · by_cases h2860 : i < 2860
                  · exact allN_at (r2849 ) i (by omega) (by omega)
                  · exact allN_at (r2860 ) i (by omega) (by omega)
            · by_cases h2904 : i < 2904
              · by_cases h2882 : i < 2882
                · exact allN_at (r2871 ) i (by omega) (by omega)
                · by_cases h2893 : i < 2893
                  · exact allN_at (r2882 ) i (by omega) (by omega)
                  · exact allN_at (r2893 ) i (by omega) (by omega)
              · by_cases h2915 : i < 2915
                · exact allN_at (r2904 ) i (by omega) (by omega)
                · by_cases h2926 : i < 2926
                  · exact allN_at (r2915 ) i (by omega) (by omega)
                  · exact allN_at (r2926 ) i (by omega) (by omega)
          · by_cases h3003 : i < 3003
            · by_cases h2970 : i < 2970
              · by_cases h2948 : i < 2948
                · exact allN_at (r2937 ) i (by omega) (by omega)
                · by_cases h2959 : i < 2959
                  · exact allN_at (r2948 ) i (by omega) (by omega)
                  · exact allN_at (r2959 ) i (by omega) (by omega)
              · by_cases h2981 : i < 2981
                · exact allN_at (r2970 ) i (by omega) (by omega)
                · by_cases h2992 : i < 2992
                  · exact allN_at (r2981 ) i (by omega) (by omega)
                  · exact allN_at (r2992 ) i (by omega) (by omega)
            · by_cases h3036 : i < 3036
              · by_cases h3014 : i < 3014
                · exact allN_at (r3003 ) i (by omega) (by omega)
                · by_cases h3025 : i < 3025
                  · exact allN_at (r3014 ) i (by omega) (by omega)
                  · exact allN_at (r3025 ) i (by omega) (by omega)
              · by_cases h3047 : i < 3047
                · exact allN_at (r3036 ) i (by omega) (by omega)
                · by_cases h3058 : i < 3058
                  · exact allN_at (r3047 ) i (by omega) (by omega)
                  · exact allN_at (r3058 ) i (by omega) (by omega)
    · by_cases h3575 : i < 3575
      · by_cases h3322 : i < 3322
        · by_cases h3190 : i < 3190
          · by_cases h3124 : i < 3124
            · by_cases h3091 : i < 3091
              · by_cases h3080 : i < 3080
                · exact allN_at (r3069 ) i (by omega) (by omega)
                · exact allN_at (r3080 ) i (by omega) (by omega)
              · by_cases h3102 : i < 3102
                · exact allN_at (r3091 ) i (by omega) (by omega)
                · by_cases h3113 : i < 3113
                  · exact allN_at (r3102 ) i (by omega) (by omega)
                  · exact allN_at (r3113 ) i (by omega) (by omega)
            · by_cases h3157 : i < 3157
              · by_cases h3135 : i < 3135
                · exact allN_at (r3124 ) i (by omega) (by omega)
                · by_cases h3146 : i < 3146
                  · exact allN_at (r3135 ) i (by omega) (by omega)
                  · exact allN_at (r3146 ) i (by omega) (by omega)
              · by_cases h3168 : i < 3168
                · exact allN_at (r3157 ) i (by omega) (by omega)
                · by_cases h3179 : i < 3179
                  · exact allN_at (r3168 ) i (by omega) (by omega)
                  · exact allN_at (r3179 ) i (by omega) (by omega)
          · by_cases h3256 : i < 3256
            · by_cases h3223 : i < 3223
              · by_cases h3201 : i < 3201
                · exact allN_at (r3190 ) i (by omega) (by omega)
                · by_cases h3212 : i < 3212
                  · exact allN_at (r3201 ) i (by omega) (by omega)
                  · exact allN_at (r3212 ) i (by omega) (by omega)
              · by_cases h3234 : i < 3234
                · exact allN_at (r3223 ) i (by omega) (by omega)
                · by_cases h3245 : i < 3245
                  · exact allN_at (r3234 ) i (by omega) (by omega)
                  · exact allN_at (r3245 ) i (by omega) (by omega)
            · by_cases h3289 : i < 3289
              · by_cases h3267 : i < 3267
                · exact allN_at (r3256 ) i (by omega) (by omega)
                · by_cases h3278 : i < 3278
                  · exact allN_at (r3267 ) i (by omega) (by omega)
                  · exact allN_at (r3278 ) i (by omega) (by omega)
              · by_cases h3300 : i < 3300
                · exact allN_at (r3289 ) i (by omega) (by omega)
                · by_cases h3311 : i < 3311
                  · exact allN_at (r3300 ) i (by omega) (by omega)
                  · exact allN_at (r3311 ) i (by omega) (by omega)
        · by_cases h3443 : i < 3443
          · by_cases h3377 : i < 3377
            · by_cases h3344 : i < 3344
              · by_cases h3333 : i < 3333
                · exact allN_at (r3322 ) i (by omega) (by omega)
                · exact allN_at (r3333 ) i (by omega) (by omega)
              · by_cases h3355 : i < 3355
                · exact allN_at (r3344 ) i (by omega) (by omega)
                · by_cases h3366 : i < 3366
                  · exact allN_at (r3355 ) i (by omega) (by omega)
                  · exact allN_at (r3366 ) i (by omega) (by omega)
            · by_cases h3410 : i < 3410
              · by_cases h3388 : i < 3388
                · exact allN_at (r3377 ) i (by omega) (by omega)
                · by_cases h3399 : i < 3399
                  · exact allN_at (r3388 ) i (by omega) (by omega)
                  · exact allN_at (r3399 ) i (by omega) (by omega)
              · by_cases h3421 : i < 3421
                · exact allN_at (r3410 ) i (by omega) (by omega)
                · by_cases h3432 : i < 3432
                  · exact allN_at (r3421 ) i (by omega) (by omega)
                  · exact allN_at (r3432 ) i (by omega) (by omega)
          · by_cases h3509 : i < 3509
            · by_cases h3476 : i < 3476
              · by_cases h3454 : i < 3454
                · exact allN_at (r3443 ) i (by omega) (by omega)
                · by_cases h3465 : i < 3465
                  · exact allN_at (r3454 ) i (by omega) (by omega)
                  · exact allN_at (r3465 ) i (by omega) (by omega)
              · by_cases h3487 : i < 3487
                · exact allN_at (r3476 ) i (by omega) (by omega)
                · by_cases h3498 : i < 3498
                  · exact allN_at (r3487 ) i (by omega) (by omega)
                  · exact allN_at (r3498 ) i (by omega) (by omega)
            · by_cases h3542 : i < 3542
              · by_cases h3520 : i < 3520
                · exact allN_at (r3509 ) i (by omega) (by omega)
                · by_cases h3531 : i < 3531
                  · exact allN_at (r3520 ) i (by omega) (by omega)
                  · exact allN_at (r3531 ) i (by omega) (by omega)
              · by_cases h3553 : i < 3553
                · exact allN_at (r3542 ) i (by omega) (by omega)
                · by_cases h3564 : i < 3564
                  · exact allN_at (r3553 ) i (by omega) (by omega)
                  · exact allN_at (r3564 ) i (by omega) (by omega)
      · by_cases h3828 : i < 3828
        · by_cases h3696 : i < 3696
          · by_cases h3630 : i < 3630
            · by_cases h3597 : i < 3597
              · by_cases h3586 : i < 3586
                · exact allN_at (r3575 ) i (by omega) (by omega)
                · exact allN_at (r3586 ) i (by omega) (by omega)
              · by_cases h3608 : i < 3608
                · exact allN_at (r3597 ) i (by omega) (by omega)
                · by_cases h3619 : i < 3619
                  · exact allN_at (r3608 ) i (by omega) (by omega)
                  · exact allN_at (r3619 ) i (by omega) (by omega)
            · by_cases h3663 : i < 3663
              · by_cases h3641 : i < 3641
                · exact allN_at (r3630 ) i (by omega) (by omega)
                · by_cases h3652 : i < 3652
                  · exact allN_at (r3641 ) i (by omega) (by omega)
                  · exact allN_at (r3652 ) i (by omega) (by omega)
              · by_cases h3674 : i < 3674
                · exact allN_at (r3663 ) i (by omega) (by omega)
                · by_cases h3685 : i < 3685
                  · exact allN_at (r3674 ) i (by omega) (by omega)
                  · exact allN_at (r3685 ) i (by omega) (by omega)
          · by_cases h3762 : i < 3762
            · by_cases h3729 : i < 3729
              · by_cases h3707 : i < 3707
                · exact allN_at (r3696 ) i (by omega) (by omega)
                · by_cases h3718 : i < 3718
                  · exact allN_at (r3707 ) i (by omega) (by omega)
                  · exact allN_at (r3718 ) i (by omega) (by omega)
              · by_cases h3740 : i < 3740
                · exact allN_at (r3729 ) i (by omega) (by omega)
                · by_cases h3751 : i < 3751
                  · exact allN_at (r3740 ) i (by omega) (by omega)
                  · exact allN_at (r3751 ) i (by omega) (by omega)
            · by_cases h3795 : i < 3795
              · by_cases h3773 : i < 3773
                · exact allN_at (r3762 ) i (by omega) (by omega)
                · by_cases h3784 : i < 3784
                  · exact allN_at (r3773 ) i (by omega) (by omega)
                  · exact allN_at (r3784 ) i (by omega) (by omega)
              · by_cases h3806 : i < 3806
                · exact allN_at (r3795 ) i (by omega) (by omega)
                · by_cases h3817 : i < 3817
                  · exact allN_at (r3806 ) i (by omega) (by omega)
                  · exact allN_at (r3817 ) i (by omega) (by omega)
        · by_cases h3960 : i < 3960
          · by_cases h3894 : i < 3894
            · by_cases h3861 : i < 3861
              · by_cases h3839 : i < 3839
                · exact allN_at (r3828 ) i (by omega) (by omega)
                · by_cases h3850 : i < 3850
                  · exact allN_at (r3839 ) i (by omega) (by omega)
                  · exact allN_at (r3850 ) i (by omega) (by omega)
              · by_cases h3872 : i < 3872
                · exact allN_at (r3861 ) i (by omega) (by omega)
                · by_cases h3883 : i < 3883
                  · exact allN_at (r3872 ) i (by omega) (by omega)
                  · exact allN_at (r3883 ) i (by omega) (by omega)
            · by_cases h3927 : i < 3927
              · by_cases h3905 : i < 3905
                · exact allN_at (r3894 ) i (by omega) (by omega)
                · by_cases h3916 : i < 3916
                  · exact allN_at (r3905 ) i (by omega) (by omega)
                  · exact allN_at (r3916 ) i (by omega) (by omega)
              · by_cases h3938 : i < 3938
                · exact allN_at (r3927 ) i (by omega) (by omega)
                · by_cases h3949 : i < 3949
                  · exact allN_at (r3938 ) i (by omega) (by omega)
                  · exact allN_at (r3949 ) i (by omega) (by omega)
          · by_cases h4026 : i < 4026
            · by_cases h3993 : i < 3993
              · by_cases h3971 : i < 3971
                · exact allN_at (r3960 ) i (by omega) (by omega)
                · by_cases h3982 : i < 3982
                  · exact allN_at (r3971 ) i (by omega) (by omega)
                  · exact allN_at (r3982 ) i (by omega) (by omega)
              · by_cases h4004 : i < 4004
                · exact allN_at (r3993 ) i (by omega) (by omega)
                · by_cases h4015 : i < 4015
                  · exact allN_at (r4004 ) i (by omega) (by omega)
                  · exact allN_at (r4015 ) i (by omega) (by omega)
            · by_cases h4059 : i < 4059
              · by_cases h4037 : i < 4037
                · exact allN_at (r4026 ) i (by omega) (by omega)
                · by_cases h4048 : i < 4048
                  · exact allN_at (r4037 ) i (by omega) (by omega)
                  · exact allN_at (r4048 ) i (by omega) (by omega)
              · by_cases h4070 : i < 4070
                · exact allN_at (r4059 ) i (by omega) (by omega)
                · by_cases h4081 : i < 4081
                  · exact allN_at (r4070 ) i (by omega) (by omega)
                  · exact allN_at (r4081 ) i (by omega) (by omega)
theorem runs (c0 : Nat) (c1 : Nat) (b2 : Bool) (h0 : c0 < 10) (h1 : c1 < 2 ^ (c0 + 1)) : run c0 c1 b2 = true := by
  have hb2 := nOf_lt b2
  have k0 : 2 ^ (c0 + 1) ≤ 1024 := Nat.pow_le_pow_right (n := 2) (by omega) (show c0 + 1 ≤ 10 by omega)
  have k1 : 2 ^ (c0 + 1) = 2 * 2 ^ c0 := by rw [Nat.pow_succ]; omega
  have k2 : 0 < 2 ^ c0 := Nat.pow_pos (by omega)
  have k3 : 2 ^ (c0 + 1 + 1) = 2 * 2 ^ (c0 + 1) := by rw [Nat.pow_succ]; omega
  have h := allRuns ((nOf b2 + 2 * (2 ^ (c0 + 1) - 2 + c1))) (by omega)
  unfold runI at h
  have d0 : Nat.add (Nat.div ((nOf b2 + 2 * (2 ^ (c0 + 1) - 2 + c1))) 2) 2 = 2 ^ (c0 + 1) + c1 := by show ((nOf b2 + 2 * (2 ^ (c0 + 1) - 2 + c1))) / 2 + 2 = _; omega
  have d1 : Nat.log2 (2 ^ (c0 + 1) + c1) = c0 + 1 := (Nat.log2_eq_iff (by omega)).2 ⟨by omega, by omega⟩
  have d2 : Nat.mod ((nOf b2 + 2 * (2 ^ (c0 + 1) - 2 + c1))) 2 = nOf b2 := by show ((nOf b2 + 2 * (2 ^ (c0 + 1) - 2 + c1))) % 2 = _; omega
  have d3 : Nat.sub (c0 + 1) 1 = c0 := rfl
  have d4 : Nat.sub (2 ^ (c0 + 1) + c1) (Nat.pow 2 (c0 + 1)) = c1 := by show 2 ^ (c0 + 1) + c1 - 2 ^ (c0 + 1) = c1; omega
  rw [d0, d1, d2, d3, d4, bOf_nOf] at h
  exact h
def nu (x0 : Nat) (x1 : Nat) : Nat → Value
  | 0 => .int .u8 (.ofNat x0)
  | 100 => .int .u16 (.ofNat x1)
  | 101 => .int .u16 (.ofNat (x1 >>> 0))
  | 102 => .int .u16 (.ofNat (x1 >>> 1))
  | 103 => .int .u16 (.ofNat (x1 >>> 2))
  | 104 => .int .u16 (.ofNat (x1 >>> 3))
  | 105 => .int .u16 (.ofNat (x1 >>> 4))
  | 106 => .int .u16 (.ofNat (x1 >>> 5))
  | 107 => .int .u16 (.ofNat (x1 >>> 6))
  | 108 => .int .u16 (.ofNat (x1 >>> 7))
  | 109 => .int .u16 (.ofNat (x1 >>> 8))
  | 110 => .int .u16 (.ofNat (x1 >>> 9))
  | _ => .bool true
theorem nu_one (x0 : Nat) (x1 : Nat) : ∀ i, (nu x0 x1 i).oneCell' = true := by
  intro i; unfold nu; split <;> rfl
theorem hyOk (x0 : Nat) (x1 : Nat) (c0 : Nat) (c1 : Nat) (hc0 : x0 % 10 = c0) (hx0 : x0 ≤ 255) (hc1 : x1 % (2 ^ (c0 + 1)) = c1) (hx1 : x1 ≤ 65535) : ∀ k r, (k, r) ∈ hy c0 c1 → HOk (cx (nu x0 x1) (nu_one x0 x1) 0 laidE laidE_stab) k r := by
  intro k r h
  simp only [hy, List.mem_cons, List.not_mem_nil, or_false, Prod.mk.injEq] at h
  rcases h with ⟨rfl, rfl⟩ | ⟨rfl, rfl⟩ | ⟨rfl, rfl⟩ | ⟨rfl, rfl⟩ | ⟨rfl, rfl⟩ | ⟨rfl, rfl⟩ | ⟨rfl, rfl⟩ | ⟨rfl, rfl⟩ | ⟨rfl, rfl⟩ | ⟨rfl, rfl⟩ | ⟨rfl, rfl⟩ | ⟨rfl, rfl⟩ | ⟨rfl, rfl⟩ | ⟨rfl, rfl⟩ | ⟨rfl, rfl⟩ | ⟨rfl, rfl⟩ | ⟨rfl, rfl⟩ | ⟨rfl, rfl⟩ | ⟨rfl, rfl⟩ | ⟨rfl, rfl⟩ | ⟨rfl, rfl⟩
  · exact hRemX (x := x0) rfl (by omega) hc0
  · exact hShrX rfl (by decide) rfl
  · exact hShrX rfl (by decide) rfl
  · exact hShrX rfl (by decide) rfl
  · exact hShrX rfl (by decide) rfl
  · exact hShrX rfl (by decide) rfl
  · exact hShrX rfl (by decide) rfl
  · exact hShrX rfl (by decide) rfl
  · exact hShrX rfl (by decide) rfl
  · exact hShrX rfl (by decide) rfl
  · exact hShrX rfl (by decide) rfl
  · exact hAndX (x := x1 >>> 0) rfl (fitsShr hx1 0) rfl (fitsBit _) (bitOfG (b := c0 + 1) hc1 0 (by omega))
  · exact (by cases hb : Nat.ble 1 c0 with | true => exact hAndX (x := x1 >>> 1) rfl (fitsShr hx1 1) rfl (fitsBit _) (bitOfG (b := c0 + 1) hc1 1 (by have := Nat.le_of_ble_eq_true hb; omega)) | false => exact hAndX (x := x1 >>> 0) rfl (fitsShr hx1 0) rfl (fitsBit _) (bitOfG (b := c0 + 1) hc1 0 (by omega)))
  · exact (by cases hb : Nat.ble 2 c0 with | true => exact hAndX (x := x1 >>> 2) rfl (fitsShr hx1 2) rfl (fitsBit _) (bitOfG (b := c0 + 1) hc1 2 (by have := Nat.le_of_ble_eq_true hb; omega)) | false => exact hAndX (x := x1 >>> 0) rfl (fitsShr hx1 0) rfl (fitsBit _) (bitOfG (b := c0 + 1) hc1 0 (by omega)))
  · exact (by cases hb : Nat.ble 3 c0 with | true => exact hAndX (x := x1 >>> 3) rfl (fitsShr hx1 3) rfl (fitsBit _) (bitOfG (b := c0 + 1) hc1 3 (by have := Nat.le_of_ble_eq_true hb; omega)) | false => exact hAndX (x := x1 >>> 0) rfl (fitsShr hx1 0) rfl (fitsBit _) (bitOfG (b := c0 + 1) hc1 0 (by omega)))
  · exact (by cases hb : Nat.ble 4 c0 with | true => exact hAndX (x := x1 >>> 4) rfl (fitsShr hx1 4) rfl (fitsBit _) (bitOfG (b := c0 + 1) hc1 4 (by have := Nat.le_of_ble_eq_true hb; omega)) | false => exact hAndX (x := x1 >>> 0) rfl (fitsShr hx1 0) rfl (fitsBit _) (bitOfG (b := c0 + 1) hc1 0 (by omega)))
  · exact (by cases hb : Nat.ble 5 c0 with | true => exact hAndX (x := x1 >>> 5) rfl (fitsShr hx1 5) rfl (fitsBit _) (bitOfG (b := c0 + 1) hc1 5 (by have := Nat.le_of_ble_eq_true hb; omega)) | false => exact hAndX (x := x1 >>> 0) rfl (fitsShr hx1 0) rfl (fitsBit _) (bitOfG (b := c0 + 1) hc1 0 (by omega)))
  · exact (by cases hb : Nat.ble 6 c0 with | true => exact hAndX (x := x1 >>> 6) rfl (fitsShr hx1 6) rfl (fitsBit _) (bitOfG (b := c0 + 1) hc1 6 (by have := Nat.le_of_ble_eq_true hb; omega)) | false => exact hAndX (x := x1 >>> 0) rfl (fitsShr hx1 0) rfl (fitsBit _) (bitOfG (b := c0 + 1) hc1 0 (by omega)))
  · exact (by cases hb : Nat.ble 7 c0 with | true => exact hAndX (x := x1 >>> 7) rfl (fitsShr hx1 7) rfl (fitsBit _) (bitOfG (b := c0 + 1) hc1 7 (by have := Nat.le_of_ble_eq_true hb; omega)) | false => exact hAndX (x := x1 >>> 0) rfl (fitsShr hx1 0) rfl (fitsBit _) (bitOfG (b := c0 + 1) hc1 0 (by omega)))
  · exact (by cases hb : Nat.ble 8 c0 with | true => exact hAndX (x := x1 >>> 8) rfl (fitsShr hx1 8) rfl (fitsBit _) (bitOfG (b := c0 + 1) hc1 8 (by have := Nat.le_of_ble_eq_true hb; omega)) | false => exact hAndX (x := x1 >>> 0) rfl (fitsShr hx1 0) rfl (fitsBit _) (bitOfG (b := c0 + 1) hc1 0 (by omega)))
  · exact (by cases hb : Nat.ble 9 c0 with | true => exact hAndX (x := x1 >>> 9) rfl (fitsShr hx1 9) rfl (fitsBit _) (bitOfG (b := c0 + 1) hc1 9 (by have := Nat.le_of_ble_eq_true hb; omega)) | false => exact hAndX (x := x1 >>> 0) rfl (fitsShr hx1 0) rfl (fitsBit _) (bitOfG (b := c0 + 1) hc1 0 (by omega)))
theorem walk (a0 : Int) (a1 : Int) (a2 : Bool) (w0 : (Lit.int .u8 a0).wf = true) (w1 : (Lit.int .u16 a1).wf = true) (w : World) (hl : laidE w) :
    Calls Tryd.prog 12 #[.int .u8 a0, .int .u16 a1, .bool a2] w fun e w' => e = .returned (.bool true) ∧ Go.AX.Below w.heap.size w w' := by
  obtain ⟨fi, hfi, hb⟩ : ∃ fi, tabk.fn.get 12 = some fi ∧ fi.body.isSome = true := ⟨_, rfl, by kernel_rfl⟩
  obtain ⟨x0, rfl, hx0⟩ := natOf (M := 255) w0 rfl rfl
  obtain ⟨x1, rfl, hx1⟩ := natOf (M := 65535) w1 rfl rfl
  have hall : AllOk (cx (nu x0 x1) (nu_one x0 x1) 0 laidE laidE_stab) (tabC (x0 % (10)) (x1 % (2 ^ (x0 % 10 + 1)))) := (tabkOk (nu x0 x1) (nu_one x0 x1)).hyps (hyOk x0 x1 _ _ rfl hx0 rfl hx1)
  exact runD hall rfl hfi hb (runs (x0 % 10) (x1 % (2 ^ (x0 % 10 + 1))) a2 (Nat.mod_lt _ (by omega)) (Nat.mod_lt _ (Nat.pow_pos (by omega)))) (args := [.int .u8 (.ofNat x0), .int .u16 (.ofNat x1), .bool a2]) (by simp only [RelL, Rel]; exact ⟨_, _, rfl, rfl, ⟨_, _, rfl, rfl, ⟨_, _, rfl, rfl, rfl⟩⟩⟩) w hl
end Go.Proofs.YtacflaaahanhgaaDoor.ruleSegs
